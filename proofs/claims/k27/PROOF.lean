import PyProof.Rows.All
import Wide.All
import OpenK.AllK
import Wide.FinOn
import KE.SortKeyHeap
import HandS.ForMost
import HandS.SortKw
import HandS.Evl
import HandS.Deep
import HandS.IsInst
import HandS.DictComp
import HandS.Codes
import HandS.Conv
import HandS.Style
import HandS.Text
import HandS.Steps
import HandS.Defaults
import HandS.TupSets
import HandS.Zip
import HandS.Strs
import PySem.Challenge.RW_anyscribe_k27_whole_desks
import KE.KLam
import HandS.Nested
import HandS.NestedK
import HandS.ForExc
import HandS.ExcInit
import HandS.ExcSuper
import HandS.FStr
import KE.KExcSuper
import HandS.StrMore
import HandS.TryMany
import KE.KDflt
import KE.KUnpackStar
import HandS.Iter
import KE.DataMinKey
import KE.KMinKey
import KE.GoesMore
import HandS.Head0
import HandS.Head1
import HandS.Head2
import HandS.HeadEnd
import HandS.HeadHook1
import HandS.HeadHook2
import HandS.HeadHook3
import HandS.HeadHook4
import HandS.HeadWalk
import HandS.ExcField
set_option Elab.async false
set_option linter.all false
set_option maxRecDepth 100000
set_option maxHeartbeats 4000000
set_option autoImplicit true
/-! sorted(xs, key=f), f a def of the program whose promise is pure. -/
namespace AsSort
open PySem PySem.Spec PyProof.Rows L2
open Evl (Ex)
abbrev EachIs' {α β : Type} := @PySem.W.EachIs α β

section
variable {X : Cx} {pins : List (Addr × Obj)} {σ : L2.St} {H : Hp} {s : Shared}

/-- f gives the i-th item its i-th key, from wherever it is called two calls deeper -/
def Keys (X : Cx) (f : Value) (H : Hp) (xs : List V) (kz : List PyData) : Prop :=
  ∀ (pins : List (Addr × Obj)) (σ : L2.St) (G : Hp) (z : Shared) (i : Nat) (x : V) (u : Value) (d : PyData), Inv X pins σ G z → Ex H G → xs[i]? = some x → kz[i]? = some d → RelV x u →
    wpAny (model X.prog X.w) X.A.in1.in1 (call f [u]) (EP X pins σ fun v G' => Ex G G' ∧ Dp X.K G' v d) (fun _ _ => False) z

theorem dpAll_snoc {K : PySem.W.Frag} {G : Hp} {v : V} {d : PyData} (h : Dp K G v d) : ∀ {vs : List V} {ds : List PyData}, DpAll K G vs ds → DpAll K G (vs ++ [v]) (ds ++ [d])
  | [], [], _ => .cons h .nil
  | [], _ :: _, z => nomatch z
  | _ :: _, [], z => nomatch z
  | _ :: _, _ :: _, .cons a b => .cons a (dpAll_snoc h b)

mutual
theorem dp_ex {K : PySem.W.Frag} {G G' : Hp} (e : Ex G G') : ∀ {v : V} {d : PyData}, Dp K G v d → Dp K G' v d
  | _, _, .non => .non
  | _, _, .bl b => .bl b
  | _, _, .int i => .int i
  | _, _, .str x => .str x
  | _, _, .lst a b => .lst (Evl.ex_l e a) (dpAll_ex e b)
  | _, _, .tup a b => .tup (Evl.ex_t e a) (dpAll_ex e b)
theorem dpAll_ex {K : PySem.W.Frag} {G G' : Hp} (e : Ex G G') : ∀ {vs : List V} {ds : List PyData}, DpAll K G vs ds → DpAll K G' vs ds
  | _, _, .nil => .nil
  | _, _, .cons a b => .cons (dp_ex e a) (dpAll_ex e b)
end


mutual
/-- data that cannot change: no list, no dict -/
def imm : PyData → Bool
  | .none => true
  | .bool _ => true
  | .int _ => true
  | .str _ => true
  | .tuple ds => immAll ds
  | .list _ => false
  | .dict _ => false
def immAll : List PyData → Bool
  | [] => true
  | d :: ds => imm d && immAll ds
end
theorem immAll_cons {d : PyData} {ds : List PyData} (h : immAll (d :: ds) = true) : imm d = true ∧ immAll ds = true := by
  have q : (imm d && immAll ds) = true := h
  exact Bool.and_eq_true_iff.mp q
/-- tuples stay -/
def Tu (K : PySem.W.Frag) (G G' : Hp) : Prop := ∀ a xs, SqT K G a xs → SqT K G' a xs
theorem tu_ex {K : PySem.W.Frag} {G G' : Hp} (e : Ex G G') : Tu K G G' := fun _ _ h => Evl.ex_t e h
theorem Tu.trans {K : PySem.W.Frag} {G G' G'' : Hp} (a : Tu K G G') (b : Tu K G' G'') : Tu K G G'' := fun x xs h => b x xs (a x xs h)
theorem tu_rd {K : PySem.W.Frag} {G G' : Hp} (h : ∀ a xs, Rd G a (.tup xs) → Rd G' a (.tup xs)) : Tu K G G' := fun a xs q => q.elim (fun z => .inl (h a xs z)) fun z => .inr z
/-- a list written -/
theorem tu_lst {K : PySem.W.Frag} {G : Hp} {p : Addr} {ys : List V} {o : HO} (h : G p = some (.lst ys)) : Tu K G (upd G p o) := tu_rd fun a xs q => by
  have ne : ∀ u, G a = some u → (∀ zs, u ≠ .lst zs) → a ≠ p := fun u e n z => by
    rw [z, h] at e
    exact n ys (Option.some.inj e).symm
  rcases q with q | ⟨w, q⟩
  · exact .inl (by rw [upd_ne (ne _ q fun _ z => nomatch z)]; exact q)
  · exact .inr ⟨w, by rw [upd_ne (ne _ q fun _ z => nomatch z)]; exact q⟩
mutual
theorem dp_tu {K : PySem.W.Frag} {G G' : Hp} (e : Tu K G G') : ∀ {v : V} {d : PyData}, imm d = true → Dp K G v d → Dp K G' v d
  | _, _, _, .non => .non
  | _, _, _, .bl b => .bl b
  | _, _, _, .int i => .int i
  | _, _, _, .str x => .str x
  | _, _, h, .lst _ _ => nomatch h
  | _, _, h, .tup a b => .tup (e _ _ a) (dpAll_tu e (by simpa [imm] using h) b)
theorem dpAll_tu {K : PySem.W.Frag} {G G' : Hp} (e : Tu K G G') : ∀ {vs : List V} {ds : List PyData}, immAll ds = true → DpAll K G vs ds → DpAll K G' vs ds
  | _, _, _, .nil => .nil
  | _, _, h, .cons a b => by
    have h2 := immAll_cons h
    exact .cons (dp_tu e h2.1 a) (dpAll_tu e h2.2 b)
end
theorem immAll_take : ∀ (ds : List PyData) (i : Nat), immAll ds = true → immAll (ds.take i) = true
  | _, 0, _ => rfl
  | [], _ + 1, _ => rfl
  | d :: ds, i + 1, h => by
    have h2 := immAll_cons h
    show (imm d && immAll (ds.take i)) = true
    rw [h2.1, immAll_take ds i h2.2]
    rfl
theorem immAll_get : ∀ {ds : List PyData} {i : Nat} {d : PyData}, immAll ds = true → ds[i]? = some d → imm d = true
  | [], _, _, _, e => by simp at e
  | _ :: _, 0, _, h, e => by
    have h2 := immAll_cons h
    have e2 := Option.some.inj e
    rw [← e2]
    exact h2.1
  | _ :: ds, i + 1, _, h, e => by
    have h2 := immAll_cons h
    exact immAll_get (ds := ds) (i := i) h2.2 (by simpa using e)

theorem each_of_reads {h : Heap} : ∀ {us : List Value} {ds : List PyData} {as : List Addr}, ReadsAll h us ds as → PySem.W.EachIs (fun v d => ∃ as, Reads h v d as) us ds
  | _, _, _, .nil => .nil
  | _, _, _, .cons a b => .cons ⟨_, a⟩ (each_of_reads b)
theorem each_vals : ∀ {xs : List V} {us : List Value} {kz : List PyData}, Vals xs us → kz.length = xs.length → PySem.W.EachIs (fun (u : Value) (p : V × PyData) => RelV p.1 u) us (xs.zip kz)
  | _, _, [], .nil, _ => .nil
  | _, _, _ :: _, .nil, h => by simp at h
  | _, _, [], .cons _ _, h => by simp at h
  | _, _, _ :: kz, .cons r t, h => .cons r (each_vals (kz := kz) t (by simpa using h))
theorem vals_each : ∀ {us : List Value} {ps : List (V × PyData)}, PySem.W.EachIs (fun (u : Value) (p : V × PyData) => RelV p.1 u) us ps → Vals (ps.map Prod.fst) us
  | _, _, .nil => .nil
  | _, _, .cons r t => .cons r (vals_each t)

/-- the items sorted by their keys -/
def byKey (rev : Bool) (xs : List V) (kz : List PyData) : List V := ((xs.zip kz).mergeSort (PySem.W.dataLe rev Prod.snd)).map Prod.fst

/-- list.sort(key=f) of a list at a that nobody knows; B, the heap ahead, in which a is not -/
theorem tree_run {a : Addr} {xs : List V} {its : List Value} {n : Nat} {f : Value} {rev : Bool} {kz : List PyData} {P : PySem.Fin → Shared → Prop} {E : Value → Shared → Prop} {hp : Heap}
    (I : Inv X pins σ H s) (fp : FpOk X pins H a) (ho : hp.get? a = some (seqObj "list" its.toArray n)) (old : ∀ b o, s.heap.get? b = some o → b ≠ a ∧ hp.get? b = some o) (r : Vals xs its) (hz : xs.length ≤ sizeLine)
    (hk : Keys X f H xs kz) (hl : kz.length = xs.length) (him : immAll kz = true) (hal : PySem.W.AllAlike kz) (hs : PySem.W.Sortable kz) (hu : ∀ d, d ∈ kz → X.A.in1.in1.units + d.depth < cLine)
    (q : ∀ s' G, Inv X pins σ G s' → Ex (upd H a (.lst (byKey rev xs kz))) G → s'.os = s.os → P (.done (.ret .none)) s') :
    wpAny (model X.prog X.w) X.A.in1.in1 (ksk_tree a f rev) P E { s with heap := hp } := by
  have hlen : its.length = xs.length := r.length.symm
  have hzi : its.length ≤ sizeLine := by omega
  obtain ⟨e1, ho1⟩ : ∃ e1, (hp.update a (Obj.mapSeq fun _ => (#[] : Array Value))).get? a = some (seqObj "list" #[] e1) := ⟨_, get?_update_seq ho fun _ => #[]⟩
  obtain ⟨hA, ehA⟩ : ∃ hA, hA = hp.update a (Obj.mapSeq fun _ => (#[] : Array Value)) := ⟨_, rfl⟩
  rw [← ehA] at ho1
  have oldA : ∀ b o, s.heap.get? b = some o → b ≠ a ∧ hA.get? b = some o := fun b o e => by
    obtain ⟨h1, h2⟩ := old b o e
    exact ⟨h1, by rw [ehA]; exact (Heap.get?_update_ne _ _ _ _ h1).trans h2⟩
  unfold ksk_tree
  refine wpAny_bind (listItems_at ho rfl ?_)
  refine wpAny_bind (listUpdate_at ho rfl ?_ (by rw [List.size_toArray]; exact hzi) (Nat.zero_le _))
  rw [← ehA]
  refine wpAny_bind (seqEpoch_at ho1 rfl ?_)
  refine wpAny_bind (wpAny_newTuple ?_ (by show its.length ≤ _; exact hzi))
  refine wpAny_bind (wpAny_newList ?_ (Nat.zero_le _))
  refine wpAny_holding ?_
  obtain ⟨hB, ehB⟩ : ∃ hB, hB = hA.push (seqObj "tuple" its.toArray 0) := ⟨_, rfl⟩
  have oldB : ∀ b o, s.heap.get? b = some o → hB.get? b = some o := fun b o e => by
    rw [ehB]
    exact Heap.get?_push_of_some _ (oldA b o e).2
  have hoB : hB.get? a = some (seqObj "list" #[] e1) := by
    rw [ehB]
    exact Heap.get?_push_of_some _ ho1
  have hBz : hB.objs.size = hA.objs.size + 1 := by rw [ehB, size_push']
  have ha : a < hB.objs.size := Heap.lt_size hoB
  -- the store of keys stands at kS
  obtain ⟨kS, ekS⟩ : ∃ kS, kS = hB.objs.size := ⟨_, rfl⟩
  have IB : Inv X pins σ H { s with heap := hB } := I.kept oldB
  have nkS : H kS = none := IB.hok.fresh (by rw [ekS]; exact Nat.le_refl _)
  have hka : kS ≠ a := by rw [ekS]; exact Nat.ne_of_gt ha
  have fpS : FpOk X pins H kS := IB.fpOk (by rw [ekS]; exact Nat.le_refl _) nkS
  have IC : Inv X pins σ (upd H kS (.lst [])) { s with heap := hB.push (seqObj "list" #[] 0) } :=
    IB.laid (a := kS) (o := .lst []) (t' := s.toks) (fun b o e => Heap.get?_push_of_some _ e) (by rw [ekS]; exact Nat.le_refl _) ⟨Nat.zero_le _, [], 0, .nil, by rw [ekS]; exact Heap.get?_push_size _ rfl⟩
  have pin1 : ∀ p ∈ pins ++ [(a, (seqObj "list" #[] e1 : Obj))], (hB.push (seqObj "list" #[] 0)).get? p.1 = some p.2 ∧ (upd H kS (.lst [])) p.1 = none ∧ p.1 ≠ X.env.locals ∧ p.1 ∉ X.fs ∧ ∀ v, p.2.data ≠ .cell v := fun p hpm => by
    rcases List.mem_append.mp hpm with z | z
    · exact IC.pin p (List.mem_append_right _ z)
    · rw [List.mem_singleton.mp z]
      refine ⟨Heap.get?_push_of_some _ hoB, ?_, fp.2.1, fp.2.2.1, fun v e => nomatch e⟩
      rw [upd_ne hka.symm]
      exact fp.1
  have ID := IC.pins_of pin1
  rw [ehB] at ID ekS
  rw [← ekS]
  show wpAny (model X.prog X.w) X.A.in1.in1 (ksk_rest a f rev its.toArray e1 (.ref kS)) P E { s with heap := (hA.push (seqObj "tuple" its.toArray 0)).push (seqObj "list" #[] 0) }
  obtain ⟨z0, ez0⟩ : ∃ z0 : Shared, z0 = { s with heap := (hA.push (seqObj "tuple" its.toArray 0)).push (seqObj "list" #[] 0) } := ⟨_, rfl⟩
  rw [← ez0] at ID ⊢
  unfold ksk_rest
  refine wpAny_bind (wpAny_rule ?_)
  first
    | rw [List.forIn_toArray]
    | (rw [← Array.forIn_toList]; simp only [List.toList_toArray])
    | rw [← Array.forIn_toList]
  refine wpAny_bind (ksk_fold (fun i z => ∃ G ks, Inv X (pins ++ [(a, (seqObj "list" #[] e1 : Obj))]) σ G z ∧ Ex H G ∧ G kS = some (.lst ks) ∧ DpAll X.K G ks (kz.take i) ∧ ks.length = i) its 0 z0
    ⟨_, [], ID, Ex.new nkS, upd_same, by rw [List.take_zero]; exact .nil, rfl⟩ ?step ?done)
  case step =>
    rintro j u z hu1 ⟨G, ks, J, eG, hG, hd, hkl⟩
    simp only [Nat.zero_add] at hd hkl ⊢
    have hj : j < its.length := (List.getElem?_eq_some_iff.mp hu1).1
    have hjx : j < xs.length := by omega
    obtain ⟨d, hdj⟩ : ∃ d, kz[j]? = some d := ⟨_, List.getElem?_eq_getElem (by omega)⟩
    have hx : xs[j]? = some xs[j] := List.getElem?_eq_getElem hjx
    obtain ⟨u', hu', ru⟩ := r.get hx
    rw [hu1] at hu'
    cases hu'
    refine wpAny_bind (wpAny_attempt (wpAny_mono (hk _ _ G z j _ u d J eG hx hdj ru) (fun v z' he => ?_) fun _ _ hF => hF.elim))
    obtain ⟨w', G', J', rw', e', hw⟩ := he
    try dsimp only
    have hG' : G' kS = some (.lst ks) := e' _ _ hG
    obtain ⟨kvs, m, rk, ok, lk⟩ := J'.lst hG'
    have hks : kvs.length = ks.length := rk.length.symm
    refine wpAny_bind (listUpdate_at ok rfl ?_ (by rw [List.size_toArray]; omega) (by rw [Array.size_push, List.size_toArray]; omega))
    refine wpAny_pure ⟨rfl, upd G' kS (.lst (ks ++ [w'])), ks ++ [w'], ?_, ?_, upd_same, ?_, ?_⟩
    · exact J'.lset (t' := z'.toks) (its := kvs) (its' := kvs ++ [v]) hG' ok (by simp) (rk.append (.cons rw' .nil)) (by rw [List.length_append, List.length_singleton]; omega)
    · exact Ex.mut (eG.trans e') nkS
    · have ek : kz.take (j + 1) = kz.take j ++ [d] := by rw [List.take_add_one, hdj]; simp
      rw [ek]
      exact dpAll_snoc (dp_tu (tu_lst hG') (immAll_get him hdj) hw) (dpAll_tu (tu_lst hG') (immAll_take kz j him) (dpAll_ex e' hd))
    · rw [List.length_append, List.length_singleton, hkl]
  case done =>
    rintro z ⟨G, ks, J, eG, hG, hd, hkl⟩
    have hd' : DpAll X.K G ks kz := by
      have e3 : kz.take (0 + its.length) = kz := List.take_of_length_le (by omega)
      rw [e3] at hd
      exact hd
    obtain ⟨kvs, m, rk, ok, lk⟩ := J.lst hG
    have hks : kvs.length = ks.length := rk.length.symm
    obtain ⟨as, hr⟩ := Dp.readsAll J kz ks kvs hd' rk
    have hea := each_of_reads hr
    have oa : z.heap.get? a = some (seqObj "list" #[] e1) := (J.pin (a, (seqObj "list" #[] e1 : Obj)) (List.mem_append_right _ (List.mem_append_right _ (List.mem_singleton.mpr rfl)))).1
    have na : G a = none := (J.pin (a, (seqObj "list" #[] e1 : Obj)) (List.mem_append_right _ (List.mem_append_right _ (List.mem_singleton.mpr rfl)))).2.1
    refine wpAny_bind (listItems_at ok rfl ?_)
    refine PySem.W.keyH_end (κ := PySem.W.dataKind z.heap kz) (h₁ := PySem.W.hideAll z.heap [kS]) (fun b o _ e => PySem.W.of_hideAll [kS] e) (PySem.W.hideAll_none [kS] (List.mem_singleton.mpr rfl)) ok oa hka
      (PySem.W.SortsAt.data hea hal hs hu) (by rw [List.size_toArray]; omega) hzi fun h' tk c kb oh => ?_
    have ko : PySem.W.KeyedOut rev ((xs.zip kz).map Prod.snd) its (PySem.W.sortVals (PySem.W.dataKind z.heap kz) rev kvs.toArray.toList its) := by
      have e4 : (xs.zip kz).map Prod.snd = kz := List.map_snd_zip (by omega)
      rw [e4]
      exact ⟨z.heap, kvs, hal, rfl, hea⟩
    have vo := vals_each (PySem.W.keyedOut_each Prod.snd ko (each_vals r hl))
    have kb2 : ∀ b o, b ≠ a → b ≠ kS → z.heap.get? b = some o → h'.get? b = some o := fun b o h1 h2 e => kb b o h1 (PySem.W.hideAll_get [kS] e fun q => h2 (List.mem_singleton.mp q))
    have J2 : Inv X pins σ G z := J.unpinned
    have hyl : (byKey rev xs kz).length ≤ sizeLine := by
      unfold byKey
      rw [List.length_map, List.length_mergeSort, List.length_zip]
      omega
    have noL : ∀ b u, G b = some u → (∀ zs, u ≠ .lst zs) → b ≠ kS := fun b u e n w => by
      rw [w, hG] at e
      exact n ks (Option.some.inj e).symm
    have noA : ∀ b u, G b = some u → b ≠ a := fun b u e w => by
      rw [w, na] at e
      cases e
    obtain ⟨G2, eG2⟩ : ∃ G2 : Hp, G2 = fun b => if b = kS then none else upd G a (.lst (byKey rev xs kz)) b := ⟨_, rfl⟩
    have gk : G2 kS = none := by rw [eG2]; exact if_pos rfl
    have ga : G2 a = some (.lst (byKey rev xs kz)) := by
      rw [eG2]
      show (if a = kS then none else upd G a (.lst (byKey rev xs kz)) a) = _
      rw [if_neg hka.symm, upd_same]
    have gb : ∀ b, b ≠ kS → b ≠ a → G2 b = G b := fun b h1 h2 => by
      rw [eG2]
      show (if b = kS then none else upd G a (.lst (byKey rev xs kz)) b) = _
      rw [if_neg h1, upd_ne h2]
    have gi : ∀ b u, G2 b = some u → b ≠ kS := fun b u e w => by
      rw [w, gk] at e
      cases e
    obtain ⟨zh, zg, zd, zt, zo⟩ := z
    have ch : ∀ b ∈ [kS, a], (b ∈ X.ex ∨ X.s_0.heap.objs.size ≤ b) ∧ b ≠ X.env.locals ∧ (∀ x c, X.env.cells.lookup x = some c → c ≠ b) ∧ ∀ p ∈ X.pn ++ pins, p.1 ≠ b := fun b hb => by
      rcases List.mem_cons.mp hb with e | hb
      · rw [e]; exact ⟨fpS.2.2.2.1, fpS.2.1, fpS.2.2.2.2.1, fpS.2.2.2.2.2⟩
      · rw [List.mem_singleton.mp hb]; exact ⟨fp.2.2.2.1, fp.2.1, fp.2.2.2.2.1, fp.2.2.2.2.2⟩
    have nc : ∀ b, b ∉ [kS, a] → b ≠ a ∧ b ≠ kS := fun b h => ⟨fun e => h (by simp [e]), fun e => h (by simp [e])⟩
    have fin : Inv X pins σ G2 ⟨h', zg, zd, tk, zo⟩ := J2.step (h' := h') (H' := G2) (g' := zg) (d' := zd) (t' := tk) (ch := [kS, a]) ch
      (fun b o _ _ hc e _ => kb2 b o (nc b hc).1 (nc b hc).2 e) (fun b o _ _ hc e _ => ⟨o.slots, kb2 b o (nc b hc).1 (nc b hc).2 e⟩) (fun b o hc _ n => by rw [gb b (nc b hc).2 (nc b hc).1]; exact n)
      (fun b o hc e => ⟨o, kb2 b o (nc b hc).1 (nc b hc).2 e⟩) (fun b zs e => by rw [gb b (noL b _ e fun _ w => nomatch w) (noA b _ e)]; exact e) (fun b o u e => by rw [gb b (noL b _ e fun _ w => nomatch w) (noA b _ e)]; exact e)
      (fun b ps e => ⟨#[], by rw [gb b (noL b _ e fun _ w => nomatch w) (noA b _ e), e]; simp⟩) (fun mm hm => by
        obtain ⟨o, es, ep, ho', r'⟩ := hm
        exact ⟨o, es, ep, kb2 _ o fp.2.1.symm fpS.2.1.symm ho', r'⟩)
      (fun b u e => by
        by_cases hb : b = a
        · rw [hb, ga] at e
          cases e
          rw [hb]
          exact ⟨hyl, _, c, vo, oh⟩
        · have hbk := gi b u e
          rw [gb b hbk hb] at e
          have nk : ∀ c v, G c = some v → (∀ zs, v ≠ .lst zs) → G2 c = some v := fun c v q n => by rw [gb c (noL c v q n) (noA c v q)]; exact q
          refine (J2.hok b u e).stay (fun c v hc q => ?_) (fun c q => nk c _ q fun _ w => nomatch w) fun c zs q => nk c _ q fun _ w => nomatch w
          rcases hc with rfl | hc
          · exact kb2 c v hb hbk q
          · exact kb2 c v (noA c _ hc) (noL c _ hc fun _ w => nomatch w) q) J2.bare
    refine q _ G2 fin (fun b o e => ?_) (J2.os.trans I.os.symm)
    by_cases hb : b = a
    · rw [hb, upd_same] at e
      rw [hb, ga]
      exact e
    · rw [upd_ne hb] at e
      rw [gb b (fun w => by rw [w, nkS] at e; cases e) hb]
      exact eG b o e
end

section
variable {prog : Program} {w : World} {A : Around} {E : Value → Shared → Prop} {s : Shared}
/-- a list or a tuple, laid out as a new list -/
theorem collect_sq {l : Addr} {vs : List Value} {T : String} {o : Obj} {n : Nat} {Q : List Value → Shared → Prop} (ho : s.heap.get? l = some o) (hc : o.cls = .type T) (hT : T = "list" ∨ T = "tuple") (hd : o.data = .seq vs.toArray n) (hsz : vs.length ≤ sizeLine)
    (h : Q vs { s with heap := (s.heap.push (seqObj "list" #[] 0)).update s.heap.objs.size (Obj.mapSeq (· ++ vs.toArray)) }) : wpAny (model prog w) A (collect (.ref l)) Q E s := by
  unfold collect
  refine wpAny_bind (wpAny_runValue (codeAny_builtin entry_proto_collect' ?_))
  show wpAny _ _ (do again (.builtin "list.__iadd__" ⟨[← newList [], .ref l], []⟩)) _ _ s
  refine wpAny_bind (wpAny_newList (wpAny_pure ⟨Code.quiet_builtin _ (by decide +kernel), codeAny_builtin entry_list_iadd' ?_⟩))
  have fresh : (s.heap.push (seqObj "list" #[] 0)).get? s.heap.objs.size = some (seqObj "list" #[] 0) := Heap.get?_push_size _ rfl
  have ho' : (s.heap.push (seqObj "list" #[] 0)).get? l = some o := Heap.get?_push_of_some _ ho
  show wpAny _ _ (Builtin.List.listExtendWith (.ref s.heap.objs.size) (.ref l) (.ref s.heap.objs.size)) _ _ { s with heap := s.heap.push (seqObj "list" #[] 0) }
  unfold Builtin.List.listExtendWith
  refine wpAny_bind (wpAny_typeOf (T := T) ⟨o, ho', hc⟩ ?_)
  have hb : (Builtin.List.listSameRef (.ref s.heap.objs.size) (.ref l) || Value.type T == Value.type "list" || Value.type T == Value.type "tuple") = true := by
    rcases hT with e | e <;> rw [e]
    · rw [show (Value.type "list" == Value.type "list") = true from rfl, Bool.or_true, Bool.true_or]
    · rw [show (Value.type "tuple" == Value.type "tuple") = true from rfl, Bool.or_true]
  rw [if_pos hb]
  refine wpAny_bind (listItems_at ho' hd ?_)
  refine wpAny_bind (listItems_at fresh rfl ?_)
  rw [if_neg (by simp)]
  refine wpAny_bind (listUpdate_at fresh rfl ?_ (Nat.zero_le _) (by show (#[] ++ vs.toArray).size ≤ sizeLine + 1; simp only [Array.size_append, List.size_toArray, List.length_nil]; omega))
  refine wpAny_pure ?_
  show wpAny (model prog w) A (load s.heap.objs.size >>= _) Q E _
  refine wpAny_bind (wpAny_load (get?_update_seq fresh _) ?_)
  show wpAny _ _ (pure ((#[] : Array Value) ++ vs.toArray).toList) Q E _
  rw [show ((#[] : Array Value) ++ vs.toArray).toList = vs by simp]
  exact wpAny_pure h
/-- sorted of either is list.sort of a new list -/
theorem sorted_sq {l : Addr} {vs : List Value} {T : String} {o : Obj} {n : Nat} {kw : List (Str × Value)} {Q : Value → Shared → Prop} (ho : s.heap.get? l = some o) (hc : o.cls = .type T) (hT : T = "list" ∨ T = "tuple") (hd : o.data = .seq vs.toArray n) (hsz : vs.length ≤ sizeLine)
    (ha1 : argsOk "sorted" ⟨[.ref l], kw⟩) (ha2 : ∀ x, argsOk "list.sort" ⟨[.ref x], kw⟩)
    (body : ∀ E' : Value → Shared → Prop, wpAny (model prog w) A.in1.in1 (Builtin.«list.sort» ⟨[.ref (s.heap.objs.size + 1)], kw⟩) (fun f s' => f = .done (.ret .none) ∧ Q (.ref (s.heap.objs.size + 1)) s') E' { s with heap := PySem.W.copyHeap s.heap vs }) :
    wpAny (model prog w) A (call (.builtin "sorted") [.ref l] kw) Q E s := by
  refine call_function_entry_kw kind_sorted plain_sorted entry_sorted ha1 ?_
  unfold Builtin.«sorted»
  refine wpAny_bind (m := checkCount "sorted" 1 1 _) (wpAny_pure (wpAny_bind (collect_sq ho hc hT hd hsz (wpAny_bind (wpAny_newList ?_ hsz)))))
  have e1 : ((s.heap.push (seqObj "list" #[] 0)).update s.heap.objs.size (Obj.mapSeq (· ++ vs.toArray))).objs.size = s.heap.objs.size + 1 := by rw [Heap.size_update, size_push']
  rw [e1]
  refine wpAny_bind (wpAny_holding (wpAny_call_entry_kw slot_list_sort ⟨_, PySem.W.copyHeap_at s.heap vs, rfl⟩ entry_list_sort (wpAny_mono (body _) (fun f s' hf => ?_) fun _ _ e => e) (ha2 _)))
  obtain ⟨rfl, hq⟩ := hf
  exact ⟨_, rfl, wpAny_pure ⟨_, rfl, hq⟩⟩
end

section
variable {X : Cx}
/-- sorted(xs, ..) by keys -/
theorem sorted_run {pins : List (Addr × Obj)} {σ : L2.St} {H : Hp} {s : Shared} {l : Addr} {xs : List V} {f : Value} {rev : Bool} {kz : List PyData} {kw : List (Str × Value)} {Q : VK} (I : Inv X pins σ H s)
    (hs : SqL X.K H l xs ∨ SqT X.K H l xs) (hk : Keys X f H xs kz) (hl : kz.length = xs.length) (him : immAll kz = true) (hal : PySem.W.AllAlike kz) (hso : PySem.W.Sortable kz) (hu : ∀ d, d ∈ kz → X.A.in1.in1.units + d.depth < cLine)
    (ha1 : argsOk "sorted" ⟨[.ref l], kw⟩) (ha2 : ∀ x, argsOk "list.sort" ⟨[.ref x], kw⟩) (ht : ∀ x, Builtin.«list.sort» ⟨[.ref x], kw⟩ = ksk_tree x f rev)
    (q : ∀ p G, H p = none → Ex (upd H p (.lst (byKey rev xs kz))) G → Q (.ref p) G) : wpAny (model X.prog X.w) X.A (call (.builtin "sorted") [.ref l] kw) (EP X pins σ Q) X.xe s := by
  have go : ∀ (vs : List Value) (T : String) (o : Obj) (n : Nat), Vals xs vs → s.heap.get? l = some o → o.cls = .type T → (T = "list" ∨ T = "tuple") → o.data = .seq vs.toArray n → xs.length ≤ sizeLine →
      wpAny (model X.prog X.w) X.A (call (.builtin "sorted") [.ref l] kw) (EP X pins σ Q) X.xe s := fun vs T o n r ho hc hT hd hz => by
    refine sorted_sq ho hc hT hd (by rw [← r.length]; exact hz) ha1 ha2 fun E' => ?_
    rw [ht]
    have nH : H (s.heap.objs.size + 1) = none := I.hok.fresh (Nat.le_succ _)
    refine tree_run I (I.fpOk (Nat.le_succ _) nH) (PySem.W.copyHeap_at s.heap vs) (fun b o e => ⟨Nat.ne_of_lt (Nat.lt_succ_of_lt (Heap.lt_size e)), PySem.W.copyHeap_old e⟩) r hz hk hl him hal hso hu fun s' G J e _ => ⟨rfl, ?_⟩
    exact ⟨.ref _, G, J, rfl, q _ G nH e⟩
  rcases hs with hs | hs
  · obtain ⟨its, rv, ⟨o, n, ho, hc, _, hd⟩, hz⟩ := I.list hs
    exact go its "list" o n rv ho hc (.inl rfl) hd hz
  · obtain ⟨its, rv, ⟨o, ho, hc, n, hd⟩, hz⟩ := I.tuple hs
    exact go its "tuple" o n rv ho hc (.inr rfl) hd hz

/-- a pure promise: data in, data out, nothing that was known changes -/
def spP (K : PySem.W.Frag) (pre : List PyData → Prop) (g : List PyData → PyData) : Sp := fun vs H Q _ => ∃ ds, DpAll K H vs ds ∧ pre ds ∧ ∀ v H', Ex H H' → Dp K H' v (g ds) → Q v H'

theorem dpAll_get {K : PySem.W.Frag} {G : Hp} : ∀ {vs : List V} {ds : List PyData} {i : Nat} {v : V} {d : PyData}, DpAll K G vs ds → vs[i]? = some v → ds[i]? = some d → Dp K G v d
  | _, _, _, _, _, .nil, h, _ => by simp at h
  | _, _, 0, _, _, .cons a _, h, h2 => by
    have e1 := Option.some.inj h
    have e2 := Option.some.inj h2
    rw [← e1, ← e2]
    exact a
  | _, _, i + 1, _, _, .cons _ b, h, h2 => dpAll_get (i := i) b (by simpa using h) (by simpa using h2)
theorem dpAll_len {K : PySem.W.Frag} {G : Hp} : ∀ {vs : List V} {ds : List PyData}, DpAll K G vs ds → vs.length = ds.length
  | _, _, .nil => rfl
  | _, _, .cons _ b => congrArg Nat.succ (dpAll_len b)

theorem keys_of {k : Nat} {f : Addr} {fd : FuncData} {x : Str} {pre : List PyData → Prop} {g : List PyData → PyData} {H : Hp} {xs : List V} {ds : List PyData} (F : FnOk X.prog X.w X.K X.mg X.base CX0 k f fd [x] (spP X.K pre g)) (hr : Room (k + 2) X.A)
    (hb : Binds X.K fd [x] []) (hd : DpAll X.K H xs ds) (hp : ∀ d ∈ ds, pre [d]) : Keys X (.ref f) H xs (ds.map fun d => g [d]) := by
  intro pins σ G z i v u d I e hx hk ru
  rw [List.getElem?_map] at hk
  cases hi : ds[i]? with
  | none => rw [hi] at hk; cases hk
  | some d0 =>
    rw [hi] at hk
    have ed : g [d0] = d := Option.some.inj hk
    have hv : Dp X.K G v d0 := dp_ex e (dpAll_get hd hx hi)
    have E0' : Env0 X.prog X.w X.K X.mg X.base X.A.in1.in1 X.stack z G := I.env0.in1.in1
    refine wpAny_call (codeAny_mono (F.run X.A.in1.in1 X.stack z G ⟨[u], []⟩ [u] [v] (fun v G' => Ex G G' ∧ Dp X.K G' v d) E0 hr.in1.in1 E0' (hb z [u] I.kIn rfl) (.cons ru .nil) ⟨[d0], .cons hv .nil, hp d0 (List.mem_of_getElem? hi), fun w' G' e' h' => ⟨e', by rw [← ed]; exact h'⟩⟩) fun r s' hq => ?_)
    cases r with
    | error e => exact hq.elim
    | ok fl =>
      cases fl with
      | ret u => exact I.after hq
      | next => exact False.elim hq
      | brk => exact False.elim hq
      | cont => exact False.elim hq

/-- the data sorted by their keys -/
theorem byKey_dp {K : PySem.W.Frag} {G : Hp} {rev : Bool} {xs : List V} {ds : List PyData} (g : PyData → PyData) (h : DpAll K G xs ds) : DpAll K G (byKey rev xs (ds.map g)) (ds.mergeSort (PySem.W.dataLe rev g)) := by
  have each : ∀ {xs : List V} {ds : List PyData}, DpAll K G xs ds → PySem.W.EachIs (fun (p : V × PyData) (d : PyData) => Dp K G p.1 d ∧ p.2 = g d) (xs.zip (ds.map g)) ds := by
    intro xs ds h
    induction h using DpAll.rec (motive_1 := fun _ _ _ => True) with
    | non => trivial
    | bl => trivial
    | int => trivial
    | str => trivial
    | lst => trivial
    | tup => trivial
    | nil => exact .nil
    | cons a _ _ ih => exact .cons ⟨a, rfl⟩ ih
  have back : ∀ {ps : List (V × PyData)} {ds : List PyData}, PySem.W.EachIs (fun (p : V × PyData) (d : PyData) => Dp K G p.1 d ∧ p.2 = g d) ps ds → DpAll K G (ps.map Prod.fst) ds := by
    intro ps ds h
    induction h with
    | nil => exact .nil
    | cons a _ ih => exact .cons a.1 ih
  refine back (PySem.W.sort_each (each h) fun p hp q hq => ?_)
  have e1 := ((each h).zip p hp).2
  have e2 := ((each h).zip q hq).2
  show PySem.W.dataLe rev Prod.snd p.1 q.1 = PySem.W.dataLe rev g p.2 q.2
  rw [PySem.W.dataLe_eq, PySem.W.dataLe_eq]
  show cond rev (!PySem.W.dataLt p.1.2 q.1.2) (!PySem.W.dataLt q.1.2 p.1.2) = cond rev (!PySem.W.dataLt (g p.2) (g q.2)) (!PySem.W.dataLt (g q.2) (g p.2))
  rw [e1, e2]

def sortD (g : PyData → PyData) (ds : List PyData) : List PyData := ds.mergeSort (PySem.W.dataLe false g)
/-- sorted(xs, key=f), f a def -/
def rSortKey (K : PySem.W.Frag) (f : Addr) (pre : List PyData → Prop) (g : List PyData → PyData) : List V → List V → Hp → VK → Prop := fun vs zs H Q => ∃ (l : Addr) (xs : List V) (ds : List PyData), vs = [.ref l] ∧ zs = [.ref f] ∧ (SqL K H l xs ∨ SqT K H l xs) ∧ DpAll K H xs ds ∧ (∀ d ∈ ds, pre [d]) ∧
  PySem.W.AllAlike (ds.map fun d => g [d]) ∧ PySem.W.Sortable (ds.map fun d => g [d]) ∧ immAll (ds.map fun d => g [d]) = true ∧ (∀ d ∈ ds, (g [d]).depth ≤ 50) ∧
  ∀ p ys G, H p = none → Ex H G → G p = some (.lst ys) → DpAll K G ys (sortD (fun d => g [d]) ds) → Q (.ref p) G
theorem cr_sortKey {k : Nat} {f : Addr} {fd : FuncData} {x : Str} {pre : List PyData → Prop} {g : List PyData → PyData} (F : FnOk X.prog X.w X.K X.mg X.base CX0 k f fd [x] (spP X.K pre g)) (hr : Room (k + 2) X.A) (hb : Binds X.K fd [x] []) :
    CallRK X (.builtin "sorted") [Str.ofString "key"] (rSortKey X.K f pre g) := by
  intro pins s σ H vs zs us ws Q I r rz h
  obtain ⟨l, xs, ds, rfl, rfl, hs, hd, hp, hal, hso, him, hdep, q⟩ := h
  obtain rfl := Vals.ref1 r
  obtain ⟨w1, rfl, e1⟩ := vals1 rz
  obtain rfl : w1 = Value.ref f := e1
  refine sorted_run (rev := false) I hs (keys_of F hr hb hd hp) (by rw [List.length_map, dpAll_len hd]) him hal hso (fun d hm => ?_) (PyProof.Rows.ksk_s1 _ _) (fun _ => PyProof.Rows.ksk_l1 _ _) (fun a => PyProof.Rows.ksk_t1 f a) fun p G np e => ?_
  · obtain ⟨d0, h0, rfl⟩ := List.mem_map.mp hm
    have h1 := hdep d0 h0
    have h2 := hr.un
    show X.A.units + 1 + 1 + (g [d0]).depth < cLine
    omega
  · exact q p _ G np ((Ex.new np).trans e) (e _ _ upd_same) (dpAll_ex ((Ex.new np).trans e) (byKey_dp _ hd))
end
end AsSort

set_option maxHeartbeats 4000000
set_option autoImplicit false
/-! what a reading gives, told as data. -/
namespace AsKit
open PySem PySem.Spec PyProof.Rows L2 AsSort
open Evl (Ex Ev EvT EvA)

def EvD (K : PySem.W.Frag) (te : TE) (σ : L2.St) (H : Hp) (d : PyData) : Prop := ∀ H1, Ex H H1 → ∀ Q : VK, (∀ v H2, Ex H1 H2 → Dp K H2 v d → Q v H2) → te σ H1 Q
def EvDs (K : PySem.W.Frag) (ta : TA) (σ : L2.St) (H : Hp) (ds : List PyData) : Prop := ∀ H1, Ex H H1 → ∀ Q : List V → Hp → Prop, (∀ vs H2, Ex H1 H2 → DpAll K H2 vs ds → Q vs H2) → ta σ H1 Q
/-- slot i holds d -/
def At (K : PySem.W.Frag) (σ : L2.St) (H : Hp) (i : Nat) (d : PyData) : Prop := ∃ v, σ[i]? = some (some v) ∧ Dp K H v d

section
variable {K : PySem.W.Frag} {σ : L2.St} {H H' : Hp} {ta tb te : TE} {t u : TT} {d e : PyData} {ds : List PyData}
theorem At.mono {i : Nat} (x : Ex H H') (h : At K σ H i d) : At K σ H' i d := let ⟨v, a, b⟩ := h; ⟨v, a, dp_ex x b⟩
theorem EvD.mono (x : Ex H H') (h : EvD K te σ H d) : EvD K te σ H' d := fun H1 a Q q => h H1 (x.trans a) Q q
theorem EvDs.mono {ta : TA} (x : Ex H H') (h : EvDs K ta σ H ds) : EvDs K ta σ H' ds := fun H1 a Q q => h H1 (x.trans a) Q q
theorem d_var {i : Nat} (h : At K σ H i d) : EvD K (tVar i) σ H d := fun H1 a _ q => let ⟨v, h1, h2⟩ := h; ⟨v, h1, q v H1 (Ex.refl H1) (dp_ex a h2)⟩
theorem dp_sc {v : V} : ∀ {d : PyData}, (∀ ds, d ≠ .list ds) → (∀ ds, d ≠ .tuple ds) → Dp K H v d → ∀ G, Dp K G v d
  | _, _, _, .non, _ => .non
  | _, _, _, .bl b, _ => .bl b
  | _, _, _, .int i, _ => .int i
  | _, _, _, .str x, _ => .str x
  | _, a, _, .lst _ _, _ => (a _ rfl).elim
  | _, _, b, .tup _ _, _ => (b _ rfl).elim
theorem d_int {i : Int} : EvD K (tC (.int i)) σ H (.int i) := fun H1 _ _ q => q _ H1 (Ex.refl H1) (.int i)
theorem d_str {x : Str} : EvD K (tC (.str x)) σ H (.str x) := fun H1 _ _ q => q _ H1 (Ex.refl H1) (.str x)
theorem d_bl {b : Bool} : EvD K (tC (.bl b)) σ H (.bool b) := fun H1 _ _ q => q _ H1 (Ex.refl H1) (.bl b)
theorem ev_int {i : Int} (h : EvD K te σ H (.int i)) : Ev te σ H (.int i) := fun H1 a Q q => h H1 a Q fun v H2 x hd => by cases hd; exact q H2 x
theorem ev_str {x : Str} (h : EvD K te σ H (.str x)) : Ev te σ H (.str x) := fun H1 a Q q => h H1 a Q fun v H2 y hd => by cases hd; exact q H2 y
theorem ev_bl {b : Bool} (h : EvD K te σ H (.bool b)) : Ev te σ H (.bl b) := fun H1 a Q q => h H1 a Q fun v H2 y hd => by cases hd; exact q H2 y
theorem d_ofI {i : Int} (h : Ev te σ H (.int i)) : EvD K te σ H (.int i) := fun H1 a Q q => h H1 a Q fun H2 x => q _ H2 x (.int i)
theorem d_ofS {x : Str} (h : Ev te σ H (.str x)) : EvD K te σ H (.str x) := fun H1 a Q q => h H1 a Q fun H2 y => q _ H2 y (.str x)
theorem d_ofB {b : Bool} (h : Ev te σ H (.bl b)) : EvD K te σ H (.bool b) := fun H1 a Q q => h H1 a Q fun H2 y => q _ H2 y (.bl b)
theorem ds_nil : EvDs K tNil σ H [] := fun H1 _ _ q => q [] H1 (Ex.refl H1) .nil
theorem ds_cons {tr : TA} (h : EvD K te σ H d) (hr : EvDs K tr σ H ds) : EvDs K (tCons te tr) σ H (d :: ds) := fun H1 a Q q =>
  h H1 a _ fun v H2 x hd => hr H2 (a.trans x) _ fun vs H3 y hs => q _ H3 (x.trans y) (.cons (dp_ex y hd) hs)
theorem ds_ev {ta : TA} {i : Int} (h : EvDs K ta σ H [.int i]) : EvA ta σ H [.int i] := fun H1 a Q q => h H1 a Q fun vs H2 x hd => by
  cases hd with
  | cons a b =>
    cases a
    cases b
    exact q H2 x
theorem ds_ev2 {ta : TA} {i j : Int} (h : EvDs K ta σ H [.int i, .int j]) : EvA ta σ H [.int i, .int j] := fun H1 a Q q => h H1 a Q fun vs H2 x hd => by
  cases hd with
  | cons a b =>
    cases a
    cases b with
    | cons a b =>
      cases a
      cases b
      exact q H2 x
theorem d_tup {ta : TA} (h : EvDs K ta σ H ds) (hl : ds.length ≤ 100000) : EvD K (tTup ta) σ H (.tuple ds) := fun H1 a Q q =>
  h H1 a _ fun vs H2 x hd => ⟨Evl.sz_of (by rw [dpAll_len hd]; exact hl), fun p hp => q _ _ (x.trans (Ex.new hp)) (.tup (Evl.st_of upd_same) (dpAll_ex (Ex.new hp) hd))⟩
theorem d_lst {ta : TA} (h : EvDs K ta σ H ds) (hl : ds.length ≤ 100000) : EvD K (tLst ta) σ H (.list ds) := fun H1 a Q q =>
  h H1 a _ fun vs H2 x hd => ⟨Evl.sz_of (by rw [dpAll_len hd]; exact hl), fun p hp => q _ _ (x.trans (Ex.new hp)) (.lst (Evl.sq_of upd_same) (dpAll_ex (Ex.new hp) hd))⟩
theorem d_call {ta : TA} {pre : List PyData → Prop} {g : List PyData → PyData} {E : XK} (h : EvDs K ta σ H ds) (hp : pre ds) : EvD K (tCall (spP K pre g) [] E ta) σ H (g ds) := fun H1 a Q q =>
  h H1 a _ fun vs H2 x hd => by
    show spP K pre g (vs ++ []) H2 Q E
    rw [List.append_nil]
    exact ⟨ds, hd, hp, fun v H3 y hv => q v H3 (x.trans y) hv⟩
theorem d_eqTo (h : EvD K te σ H d) (e1 : d = e) : EvD K te σ H e := e1 ▸ h
/-- len -/
def rLenQ (K : PySem.W.Frag) : List V → Hp → VK → Prop := fun xs H Q => ∃ p ys, xs = [.ref p] ∧ (SqL K H p ys ∨ SqT K H p ys) ∧ Q (.int ys.length) H
def rLenTx : List V → Hp → VK → Prop := fun xs H Q => ∃ z, xs = [.str z] ∧ z.length ≤ sizeLine ∧ Q (.int z.length) H
theorem d_lenT (h : EvD K te σ H (.tuple ds)) : EvD K (tCB (rLenQ K) (tCons te tNil)) σ H (.int (ds.length : Int)) := fun H1 a Q q =>
  h H1 a _ fun v H2 x hd => by
    cases hd with
    | tup hs hx => exact ⟨_, _, rfl, .inr hs, by rw [dpAll_len hx]; exact q _ H2 x (.int _)⟩
theorem d_lenL (h : EvD K te σ H (.list ds)) : EvD K (tCB (rLenQ K) (tCons te tNil)) σ H (.int (ds.length : Int)) := fun H1 a Q q =>
  h H1 a _ fun v H2 x hd => by
    cases hd with
    | lst hs hx => exact ⟨_, _, rfl, .inl hs, by rw [dpAll_len hx]; exact q _ H2 x (.int _)⟩
theorem d_lenS {x : Str} (h : EvD K te σ H (.str x)) (hz : x.length ≤ 100000) : EvD K (tCB rLenTx (tCons te tNil)) σ H (.int (x.length : Int)) := fun H1 a Q q =>
  h H1 a _ fun v H2 y hd => by
    cases hd
    exact ⟨x, rfl, Evl.sz_of hz, q _ H2 y (.int _)⟩
/-- equal data -/
theorem t_eqD (h : EvD K ta σ H d) (h2 : EvD K tb σ H e) (s1 : SeqAt.shaped d = true) (s2 : SeqAt.shaped e = true) : EvT (tTest (tOp (rEqD K) ta tb)) σ H (PyData.eqv d e) := fun H1 a Q q =>
  h H1 a _ fun v H2 x hd => h2 H2 (a.trans x) _ fun w H3 y he => ⟨d, e, dp_ex y hd, he, s1, s2, _, rfl, q H3 (x.trans y)⟩
theorem d_eqD (h : EvD K ta σ H d) (h2 : EvD K tb σ H e) (s1 : SeqAt.shaped d = true) (s2 : SeqAt.shaped e = true) : EvD K (tOp (rEqD K) ta tb) σ H (.bool (PyData.eqv d e)) := fun H1 a Q q =>
  h H1 a _ fun v H2 x hd => h2 H2 (a.trans x) _ fun w H3 y he => ⟨d, e, dp_ex y hd, he, s1, s2, q _ H3 (x.trans y) (.bl _)⟩
theorem d_neD (h : EvD K ta σ H d) (h2 : EvD K tb σ H e) (s1 : SeqAt.shaped d = true) (s2 : SeqAt.shaped e = true) : EvD K (tOp (rNeD K) ta tb) σ H (.bool (!PyData.eqv d e)) := fun H1 a Q q =>
  h H1 a _ fun v H2 x hd => h2 H2 (a.trans x) _ fun w H3 y he => ⟨d, e, dp_ex y hd, he, s1, s2, q _ H3 (x.trans y) (.bl _)⟩
/-- texts alike -/
theorem d_eqS {x y : Str} (h : EvD K ta σ H (.str x)) (h2 : EvD K tb σ H (.str y)) : EvD K (tOp rEq ta tb) σ H (.bool (decide (x = y))) :=
  d_eqTo (d_ofB (Evl.ev_op (ev_str h) (ev_str h2) (Evl.rv_eq rfl))) (by
    by_cases e : x = y
    · subst e; simp
    · rw [decide_eq_false e, decide_eq_false (fun z => e (V.str.inj z))])
theorem d_neS {x y : Str} (h : EvD K ta σ H (.str x)) (h2 : EvD K tb σ H (.str y)) : EvD K (tOp rNe ta tb) σ H (.bool (!decide (x = y))) :=
  d_eqTo (d_ofB (Evl.ev_op (ev_str h) (ev_str h2) (Evl.rv_ne rfl))) (by
    by_cases e : x = y
    · subst e; simp
    · rw [decide_eq_false e, decide_eq_false (fun z => e (V.str.inj z))])
theorem d_eqI {x y : Int} (h : EvD K ta σ H (.int x)) (h2 : EvD K tb σ H (.int y)) : EvD K (tOp rEq ta tb) σ H (.bool (decide (x = y))) :=
  d_eqTo (d_ofB (Evl.ev_op (ev_int h) (ev_int h2) (Evl.rv_eq rfl))) (by
    by_cases e : x = y
    · subst e; simp
    · rw [decide_eq_false e, decide_eq_false (fun z => e (V.int.inj z))])
theorem d_neI {x y : Int} (h : EvD K ta σ H (.int x)) (h2 : EvD K tb σ H (.int y)) : EvD K (tOp rNe ta tb) σ H (.bool (!decide (x = y))) :=
  d_eqTo (d_ofB (Evl.ev_op (ev_int h) (ev_int h2) (Evl.rv_ne rfl))) (by
    by_cases e : x = y
    · subst e; simp
    · rw [decide_eq_false e, decide_eq_false (fun z => e (V.int.inj z))])
theorem t_ofD {b : Bool} (h : EvD K te σ H (.bool b)) : EvT (tTest te) σ H b := Evl.et_test (ev_bl h)
theorem t_ofB {b : Bool} (h : EvD K te σ H (.bool b)) : EvT (tB te) σ H b := Evl.et_B (ev_bl h)
/-- isinstance -/
def tyName : PyData → String
  | .none => "NoneType"
  | .bool _ => "bool"
  | .int _ => "int"
  | .str _ => "str"
  | .list _ => "list"
  | .tuple _ => "tuple"
  | .dict _ => "dict"
theorem tyx {v : V} : ∀ {d : PyData}, Dp K H v d → TyX K H v (.type (tyName d)) := by
  intro d h
  cases h with
  | non => exact .base .non
  | bl b => exact .base (.bl b)
  | int i => exact .base (.int i)
  | str x => exact .base (.str x)
  | lst a b =>
    rcases a with a | a
    · rcases a with a | ⟨o, a⟩
      · exact .base (.lst a)
      · exact .base (.frz a)
    · obtain ⟨o, its, n, h1, h2, _⟩ := a
      exact .kList h1 h2
  | tup a b =>
    rcases a with a | a
    · rcases a with a | ⟨o, a⟩
      · exact .base (.tup a)
      · exact .fTuple a
    · obtain ⟨o, its, n, h1, h2, _⟩ := a
      exact .kTuple h1 h2
/-- isinstance(e, T), T a built-in class -/
def kitName (d : PyData) (T : String) : Bool := match kitB (tyName d) T with | some b => b | none => false
theorem d_isi {T : String} {b : Bool} (h : EvD K te σ H d) (hk : kitB (tyName d) T = some b) : EvD K (tCB (rIsi K) (tCons te (tCons (tC (.ty T)) tNil))) σ H (.bool b) := fun H1 a Q q =>
  h H1 a _ fun v H2 x hd => ⟨v, .ty T, .type (tyName d), .type T, b, rfl, .ty T, tyx hd, kit_ty hk, q _ H2 x (.bl b)⟩
theorem d_isiT {cs : List V} {us : List Value} {b : Bool} {ta : TA} (h : EvD K te σ H d) (hc : ∀ H1, Ex H H1 → EvA ta σ H1 cs) (hl : cs.length ≤ 100000) (hp : Paired ClsV cs us) (hk : PySem.W.kitAny K (.type (tyName d)) us = some b) :
    EvD K (tCB (rIsiT K) (tCons te (tCons (tTup ta) tNil))) σ H (.bool b) := fun H1 a Q q =>
  h H1 a _ fun v H2 x hd => hc H2 (a.trans x) H2 (Ex.refl H2) _ fun H3 y => ⟨Evl.sz_of hl, fun p hp' => ⟨v, p, cs, .type (tyName d), us, b, rfl, upd_same, hp, tyx (dp_ex (y.trans (Ex.new hp')) hd), hk, q _ _ ((x.trans y).trans (Ex.new hp')) (.bl b)⟩⟩
/-- not, and, or -/
theorem d_not {b : Bool} (h : EvD K te σ H (.bool b)) : EvD K (tNotV te) σ H (.bool (!b)) := d_ofB (Evl.ev_notV (ev_bl h))
theorem d_and {a b : Bool} (h1 : EvD K ta σ H (.bool a)) (h2 : a = true → EvD K tb σ H (.bool b)) : EvD K (tAndV ta tb) σ H (.bool (a && b)) := d_ofB (Evl.ev_andV (ev_bl h1) fun e => ev_bl (h2 e))
theorem d_or {a b : Bool} (h1 : EvD K ta σ H (.bool a)) (h2 : a = false → EvD K tb σ H (.bool b)) : EvD K (tOrV ta tb) σ H (.bool (a || b)) := d_ofB (Evl.ev_orV (ev_bl h1) fun e => ev_bl (h2 e))
/-- ints -/
theorem d_opI {g : Int → Int → V} {z : V} {i j : Int} {dz : PyData} (h : EvD K ta σ H (.int i)) (h2 : EvD K tb σ H (.int j)) (hz : ∀ G, Dp K G (g i j) dz) : EvD K (tOp (rI0 g) ta tb) σ H dz := fun H1 a Q q =>
  h H1 a _ fun v H2 x hd => h2 H2 (a.trans x) _ fun w H3 y he => by
    cases hd
    cases he
    exact ⟨i, j, rfl, rfl, q _ H3 (x.trans y) (hz _)⟩
theorem d_opS {g : Str → Str → V} {i j : Str} {dz : PyData} (h : EvD K ta σ H (.str i)) (h2 : EvD K tb σ H (.str j)) (hz : ∀ G, Dp K G (g i j) dz) : EvD K (tOp (fun x y H Q => ∃ i j, x = .str i ∧ y = .str j ∧ Q (g i j) H) ta tb) σ H dz := fun H1 a Q q =>
  h H1 a _ fun v H2 x hd => h2 H2 (a.trans x) _ fun w H3 y he => by
    cases hd
    cases he
    exact ⟨i, j, rfl, rfl, q _ H3 (x.trans y) (hz _)⟩
/-- c in s, c one sign -/
theorem d_inS {c : Nat} {z : Str} (h : EvD K ta σ H (.str ⟨#[c]⟩)) (h2 : EvD K tb σ H (.str z)) : EvD K (tOp rInS ta tb) σ H (.bool (decide (c ∈ z.cps.toList))) := fun H1 a Q q =>
  h H1 a _ fun v H2 x hd => h2 H2 (a.trans x) _ fun w H3 y he => by
    cases hd
    cases he
    exact ⟨c, z, rfl, rfl, q _ H3 (x.trans y) (.bl _)⟩
/-- xs[i] -/
theorem d_ixT {i : Int} (h : EvD K ta σ H (.tuple ds)) (h2 : EvD K tb σ H (.int i)) (hi : atI ds i = some d) : EvD K (tOp (rIxT K) ta tb) σ H d := fun H1 a Q q =>
  h H1 a _ fun v H2 x hd => h2 H2 (a.trans x) _ fun w H3 y he => by
    cases he
    cases hd with
    | tup hs hx =>
      rename_i p xs
      have hl : xs.length = ds.length := dpAll_len hx
      unfold atI at hi
      cases hk : ixN ds.length i with
      | none => rw [hk] at hi; cases hi
      | some k =>
        rw [hk] at hi
        obtain ⟨hk1, hk2⟩ := List.getElem?_eq_some_iff.mp hi
        have hx1 : xs[k]? = some xs[k] := List.getElem?_eq_getElem (by omega)
        exact ⟨_, xs, i, xs[k], rfl, rfl, Evl.ex_t y hs, by unfold atI; rw [show ixN xs.length i = some k from hl ▸ hk]; exact hx1, q _ H3 (x.trans y) (dp_ex y (dpAll_get hx hx1 hi))⟩
theorem d_ixL {i : Int} (h : EvD K ta σ H (.list ds)) (h2 : EvD K tb σ H (.int i)) (hi : atI ds i = some d) : EvD K (tOp (rIxL K) ta tb) σ H d := fun H1 a Q q =>
  h H1 a _ fun v H2 x hd => h2 H2 (a.trans x) _ fun w H3 y he => by
    cases he
    cases hd with
    | lst hs hx =>
      rename_i p xs
      have hl : xs.length = ds.length := dpAll_len hx
      unfold atI at hi
      cases hk : ixN ds.length i with
      | none => rw [hk] at hi; cases hi
      | some k =>
        rw [hk] at hi
        obtain ⟨hk1, hk2⟩ := List.getElem?_eq_some_iff.mp hi
        have hx1 : xs[k]? = some xs[k] := List.getElem?_eq_getElem (by omega)
        exact ⟨_, xs, i, xs[k], rfl, rfl, Evl.ex_l y hs, by unfold atI; rw [show ixN xs.length i = some k from hl ▸ hk]; exact hx1, q _ H3 (x.trans y) (dp_ex y (dpAll_get hx hx1 hi))⟩
theorem d_ixS {z : Str} {i : Int} {c : Nat} (h : EvD K ta σ H (.str z)) (h2 : EvD K tb σ H (.int i)) (hz : z.length ≤ 100000) (hi : atI z.cps.toList i = some c) : EvD K (tOp rIxS ta tb) σ H (.str ⟨#[c]⟩) :=
  d_ofS (Evl.ev_op (ev_str h) (ev_int h2) (Evl.rv_ixS hz hi))
/-- slices of texts -/
def EvP (K : PySem.W.Frag) (to : TO) (σ : L2.St) (H : Hp) (o : Option Int) : Prop := Evl.EvO to σ H o
theorem p_none : EvP K tNoPart σ H none := Evl.eo_none
theorem p_some {i : Int} (h : EvD K te σ H (.int i)) : EvP K (tPart te) σ H (some i) := Evl.eo_some (ev_int h)
theorem d_slS {tl th : TO} {z : Str} {lo hi : Option Int} (h : EvD K te σ H (.str z)) (h1 : EvP K tl σ H lo) (h2 : EvP K th σ H hi) (hz : z.length ≤ 100000) : EvD K (tSl rSlS te tl th) σ H (.str (cutS z lo hi)) := fun H1 a Q q =>
  h H1 a _ fun v H2 x hd => h1 H2 (a.trans x) _ fun H3 y => h2 H3 ((a.trans x).trans y) _ fun H4 w => by
    cases hd
    exact ⟨z, rfl, Evl.sz_of hz, q _ H4 ((x.trans y).trans w) (.str _)⟩
theorem cut_len (z : Str) (lo hi : Option Int) : (cutS z lo hi).length ≤ z.length := by
  unfold cutS
  have hl : z.cps.toList.length = z.length := Array.length_toList
  show (List.toArray _).size ≤ _
  rw [List.size_toArray, List.length_take, List.length_drop]
  omega
theorem cut_tl (z : Str) (lo hi : Option Int) : (cutS z lo hi).cps.toList = (z.cps.toList.drop (HT.sIx z.length 0 lo)).take (HT.sIx z.length z.length hi - HT.sIx z.length 0 lo) := rfl
/-- z[p:p+n] -/
theorem cut_mid (z : Str) (p n : Nat) : (cutS z (some (p : Int)) (some ((p + n : Nat) : Int))).cps.toList = (z.cps.toList.drop p).take n := by
  have hl : z.cps.toList.length = z.length := Array.length_toList
  rw [cut_tl, HT.sIx_nat, HT.sIx_nat]
  by_cases h : p ≤ z.length
  · rw [Nat.min_eq_left h]
    by_cases h2 : p + n ≤ z.length
    · rw [Nat.min_eq_left h2, show p + n - p = n by omega]
    · rw [Nat.min_eq_right (by omega), List.take_of_length_le (by rw [List.length_drop]; omega), List.take_of_length_le (by rw [List.length_drop]; omega)]
  · rw [List.drop_eq_nil_of_le (by omega : z.cps.toList.length ≤ p), List.drop_eq_nil_of_le (by omega)]
    simp
theorem cut_from (z : Str) (p : Nat) : (cutS z (some (p : Int)) none).cps.toList = z.cps.toList.drop p := by
  have hl : z.cps.toList.length = z.length := Array.length_toList
  rw [cut_tl, HT.sIx_nat, HT.sIx_none]
  by_cases h : p ≤ z.length
  · rw [Nat.min_eq_left h, List.take_of_length_le (by rw [List.length_drop]; omega)]
  · rw [List.drop_eq_nil_of_le (by omega : z.cps.toList.length ≤ p), List.drop_eq_nil_of_le (by omega)]
    simp
theorem cut_to (z : Str) (p : Nat) : (cutS z none (some (p : Int))).cps.toList = z.cps.toList.take p := by
  have hl : z.cps.toList.length = z.length := Array.length_toList
  rw [cut_tl, HT.sIx_nat, HT.sIx_none, List.drop_zero]
  by_cases h : p ≤ z.length
  · rw [Nat.min_eq_left h, Nat.sub_zero]
  · rw [Nat.min_eq_right (by omega), Nat.sub_zero, List.take_of_length_le (by omega), List.take_of_length_le (by omega)]
/-- texts joined -/
def rAddS : R2 := fun x y H Q => ∃ i j, x = .str i ∧ y = .str j ∧ i.length + j.length ≤ sizeLine ∧ Q (.str (i ++ j)) H
theorem d_addS {x y : Str} (h : EvD K ta σ H (.str x)) (h2 : EvD K tb σ H (.str y)) (hz : x.length + y.length ≤ 100000) : EvD K (tOp rAddS ta tb) σ H (.str (x ++ y)) := fun H1 a Q q =>
  h H1 a _ fun v H2 u hd => h2 H2 (a.trans u) _ fun w H3 y he => by
    cases hd
    cases he
    exact ⟨_, _, rfl, rfl, Evl.sz_of hz, q _ H3 (u.trans y) (.str _)⟩
theorem add_len (x y : Str) : (x ++ y).length = x.length + y.length := by
  show (x.cps ++ y.cps).size = _
  rw [Array.size_append]
  rfl
/-- all, any of a list -/
theorem bools_of {G : Hp} : ∀ {xs : List V} {bs : List Bool}, DpAll K G xs (bs.map PyData.bool) → xs = bs.map V.bl
  | _, [], .nil => rfl
  | _, _ :: _, .cons (.bl b) t => by rw [bools_of t]; rfl
theorem d_all {bs : List Bool} (h : EvD K te σ H (.list (bs.map PyData.bool))) : EvD K (tCB (rAll K) (tCons te tNil)) σ H (.bool (bs.all id)) := fun H1 a Q q =>
  h H1 a _ fun v H2 x hd => by
    cases hd with
    | lst hs hx => exact ⟨_, bs, rfl, by rw [← bools_of hx]; exact hs, q _ H2 x (.bl _)⟩
theorem d_any {bs : List Bool} (h : EvD K te σ H (.list (bs.map PyData.bool))) : EvD K (tCB (rAny K) (tCons te tNil)) σ H (.bool (bs.any id)) := fun H1 a Q q =>
  h H1 a _ fun v H2 x hd => by
    cases hd with
    | lst hs hx => exact ⟨_, bs, rfl, by rw [← bools_of hx]; exact hs, q _ H2 x (.bl _)⟩
/-- tuple(list), list(tuple) -/
def rTupQ (K : PySem.W.Frag) : List V → Hp → VK → Prop := fun xs H Q => ∃ p ys, xs = [.ref p] ∧ ((SqL K H p ys ∧ ∀ l, H l = none → Q (.ref l) (upd H l (.tup ys))) ∨ (SqT K H p ys ∧ Q (.ref p) H))
theorem d_tupOf (h : EvD K te σ H (.list ds)) : EvD K (tCB (rTupQ K) (tCons te tNil)) σ H (.tuple ds) := fun H1 a Q q =>
  h H1 a _ fun v H2 x hd => by
    cases hd with
    | lst hs hx => exact ⟨_, _, rfl, .inl ⟨hs, fun l hl => q _ _ (x.trans (Ex.new hl)) (.tup (Evl.st_of upd_same) (dpAll_ex (Ex.new hl) hx))⟩⟩
end
end AsKit

set_option maxHeartbeats 4000000
set_option autoImplicit false
/-! comprehensions and loops, told as data. -/
namespace AsKit
open PySem PySem.Spec PyProof.Rows L2 AsSort
open Evl (Ex Ev EvT EvA)

theorem lc_str {y : Str} {g : TG} {tt : TT} {te : TE} {vs : List Nat} {σ : L2.St} {H1 : Hp} {D : Addr} {Qd : Hp → Prop} (Pv : Nat → Hp → Prop) (h0 : Pv 0 (upd H1 D (.lst [])))
    (hs : ∀ i c H, y.cps.toList[i]? = some c → Pv i H → g (.str ⟨#[c]⟩) (wipe σ vs) H fun σ2 H2 => wipe σ2 vs = wipe σ vs ∧ tt σ2 H2 fun b H3 =>
      if b = true then te σ2 H3 fun y H4 => ∃ acc, H4 D = some (.lst acc) ∧ acc.length < sizeLine ∧ Pv (i + 1) (upd H4 D (.lst (acc ++ [y]))) else Pv (i + 1) H3) (hd : ∀ H, Pv y.cps.toList.length H → Qd H) :
    ∃ W : Nat → Nat → Hp → Prop, (∃ m, W 0 m (upd H1 D (.lst []))) ∧ ∀ i m H, W i m H →
      ((Its y).stop i H ∧ Qd H) ∨ ((Its y).go i H ∧ ∃ Nx : Hp → Prop, (∀ H', Nx H' → ∃ m', m' < m ∧ W (i + 1) m' H') ∧ ∀ x H', (Its y).yld i H x H' → g x (wipe σ vs) H' fun σ2 H2 => wipe σ2 vs = wipe σ vs ∧ tt σ2 H2 fun b H3 =>
        if b = true then te σ2 H3 fun y H4 => ∃ acc, H4 D = some (.lst acc) ∧ acc.length < sizeLine ∧ Nx (upd H4 D (.lst (acc ++ [y]))) else Nx H3) := by
  have hsz : y.cps.toList.length = y.cps.size := Array.length_toList
  refine ⟨fun i m H => m = y.cps.toList.length - i ∧ i ≤ y.cps.toList.length ∧ Pv i H, ⟨y.cps.toList.length, by simp, Nat.zero_le _, h0⟩, ?_⟩
  rintro i m H ⟨rfl, hi, p⟩
  by_cases hlt : i < y.cps.toList.length
  · refine .inr ⟨by show i < y.cps.size; omega, Pv (i + 1), fun H' p' => ⟨y.cps.toList.length - (i + 1), by omega, rfl, hlt, p'⟩, fun x H' z => ?_⟩
    obtain ⟨e, c, hc, rfl⟩ := z
    subst e
    exact hs i c _ (by rw [Array.getElem?_toList]; exact hc) p
  · have e : i = y.cps.toList.length := by omega
    subst e
    exact .inl ⟨by show y.cps.size ≤ _; omega, hd H p⟩

section
variable {K : PySem.W.Frag} {σ : L2.St} {H H' : Hp} {ta tb te tl : TE} {t u : TT} {d e : PyData} {ds : List PyData} {gt : TG} {vs : List Nat}
/-- D holds what the first i items gave -/
def Cd (K : PySem.W.Frag) (H : Hp) (ds : List PyData) (f : PyData → Bool) (g : PyData → PyData) (D : Addr) (i : Nat) (H' : Hp) : Prop := H D = none ∧ Ex H H' ∧ ∃ acc, H' D = some (.lst acc) ∧ DpAll K H' acc (((ds.take i).filter f).map g)
theorem immAll_of : ∀ {ds : List PyData}, (∀ d ∈ ds, imm d = true) → immAll ds = true
  | [], _ => rfl
  | d :: ds, h => by
    show (imm d && immAll ds) = true
    rw [h d (List.mem_cons_self ..), immAll_of fun z hz => h z (List.mem_cons_of_mem _ hz)]
    rfl
theorem imm_all {ds : List PyData} (h : immAll ds = true) : ∀ d ∈ ds, imm d = true := fun d hd => by
  obtain ⟨i, hi⟩ := List.mem_iff_getElem?.mp hd
  exact immAll_get h hi
theorem cd_imm {f : PyData → Bool} {g : PyData → PyData} (him : ∀ d ∈ ds, f d = true → imm (g d) = true) (i : Nat) : immAll (((ds.take i).filter f).map g) = true := immAll_of fun z hz => by
  obtain ⟨d, hd, rfl⟩ := List.mem_map.mp hz
  have h2 := List.mem_filter.mp hd
  exact him d (List.mem_of_mem_take h2.1) h2.2
theorem cd_turn {f : PyData → Bool} {g : PyData → PyData} {D : Addr} {i : Nat} {σ2 : L2.St} (him : ∀ d ∈ ds, f d = true → imm (g d) = true) (p : Cd K H ds f g D i H') (hi : ds[i]? = some d) (hz : ds.length ≤ 50000)
    (ht : EvT t σ2 H' (f d)) (he : f d = true → EvD K te σ2 H' (g d)) :
    t σ2 H' fun b H3 => if b = true then te σ2 H3 fun y H4 => ∃ acc, H4 D = some (.lst acc) ∧ acc.length < sizeLine ∧ Cd K H ds f g D (i + 1) (upd H4 D (.lst (acc ++ [y]))) else Cd K H ds f g D (i + 1) H3 := by
  obtain ⟨p1, p2, acc, p3, p4⟩ := p
  have ek : ds.take (i + 1) = ds.take i ++ [d] := by rw [List.take_add_one, hi]; simp
  refine ht H' (Ex.refl _) _ fun H3 e3 => ?_
  cases hf : f d with
  | true =>
    show te σ2 H3 fun y H4 => ∃ acc, H4 D = some (.lst acc) ∧ acc.length < sizeLine ∧ Cd K H ds f g D (i + 1) (upd H4 D (.lst (acc ++ [y])))
    refine he hf H3 e3 _ fun y H4 e4 hy => ?_
    have p5 : H4 D = some (.lst acc) := e4 D _ (e3 D _ p3)
    have hl : acc.length ≤ 50000 := by
      rw [dpAll_len p4, List.length_map]
      have h1 := List.length_filter_le f (ds.take i)
      have h2 := List.length_take_le i ds
      have h3 := List.length_take_le' i ds
      omega
    refine ⟨acc, p5, Evl.sz_lt (by omega), p1, Ex.mut ((p2.trans e3).trans e4) p1, acc ++ [y], upd_same, ?_⟩
    have h6 : DpAll K H4 acc (((ds.take i).filter f).map g) := dpAll_ex (e3.trans e4) p4
    have hd' : d ∈ ds := List.mem_of_getElem? hi
    rw [ek, List.filter_append, List.map_append, List.filter_cons, if_pos hf]
    exact dpAll_snoc (dp_tu (tu_lst p5) (him d hd' hf) hy) (dpAll_tu (tu_lst p5) (cd_imm him i) h6)
  | false =>
    show Cd K H ds f g D (i + 1) H3
    refine ⟨p1, p2.trans e3, acc, e3 D _ p3, ?_⟩
    rw [ek, List.filter_append, List.map_append, List.filter_cons, if_neg (by rw [hf]; decide)]
    show DpAll K H3 acc (_ ++ [])
    rw [List.append_nil]
    exact dpAll_ex e3 p4
theorem cd_end {f : PyData → Bool} {g : PyData → PyData} {D : Addr} (p : Cd K H ds f g D ds.length H') : Ex H H' ∧ Dp K H' (.ref D) (.list ((ds.filter f).map g)) := by
  obtain ⟨p1, p2, acc, p3, p4⟩ := p
  rw [List.take_length] at p4
  exact ⟨p2, .lst (Evl.sq_of p3) p4⟩
theorem cd_end2 {f : PyData → Bool} {g : PyData → PyData} {D : Addr} {n : Nat} (hl : ds.length = n) (p : Cd K H ds f g D n H') : Ex H H' ∧ Dp K H' (.ref D) (.list ((ds.filter f).map g)) := by
  subst hl
  exact cd_end p
theorem cd_start {f : PyData → Bool} {g : PyData → PyData} {D : Addr} (h : H D = none) : Cd K H ds f g D 0 (upd H D (.lst [])) := ⟨h, Ex.new h, [], upd_same, by rw [List.take_zero]; exact .nil⟩
/-- what a turn asks: the target takes the item d, then test and expression -/
def Turn (K : PySem.W.Frag) (gt : TG) (t : TT) (te : TE) (vs : List Nat) (σ : L2.St) (H : Hp) (d : PyData) (b : Bool) (o : PyData) : Prop := ∀ x H1, Ex H H1 → Dp K H1 x d → ∀ k : L2.St → Hp → Prop,
  (∀ σ2, wipe σ2 vs = wipe σ vs → EvT t σ2 H1 b → (b = true → EvD K te σ2 H1 o) → k σ2 H1) → gt x (wipe σ vs) H1 k
theorem d_lcT (f : PyData → Bool) (g : PyData → PyData) (h : EvD K tl σ H (.tuple ds)) (hz : ds.length ≤ 50000) (him : ∀ d ∈ ds, f d = true → imm (g d) = true) (ht : ∀ d ∈ ds, Turn K gt t te vs σ H d (f d) (g d)) :
    EvD K (tLc (iTup K tl) gt t te vs) σ H (.list ((ds.filter f).map g)) := fun H1 a Q q => h H1 a _ fun v H2 x hd => by
  cases hd with
  | tup hs hx =>
    refine ⟨_, rfl, ⟨_, hs⟩, fun D hD => lc_tup (Cd K H2 ds f g D) (cd_start hD) (fun i H' _ p => Evl.ex_t p.2.1 hs) (fun i y H' hi p => ?_) fun H' p => ?_⟩
    · have hi2 : i < ds.length := by rw [← dpAll_len hx]; exact (List.getElem?_eq_some_iff.mp hi).1
      have hd : ds[i]? = some ds[i] := List.getElem?_eq_getElem hi2
      exact ht ds[i] (List.getElem_mem hi2) y H' (a.trans (x.trans p.2.1)) (dp_ex p.2.1 (dpAll_get hx hi hd)) _ fun σ2 w h1 h2 => ⟨w, cd_turn him p hd hz h1 h2⟩
    · rw [dpAll_len hx] at p
      have z := cd_end p
      exact q _ H' (x.trans z.1) z.2
theorem d_lcL (f : PyData → Bool) (g : PyData → PyData) (h : EvD K tl σ H (.list ds)) (hz : ds.length ≤ 50000) (him : ∀ d ∈ ds, f d = true → imm (g d) = true) (ht : ∀ d ∈ ds, Turn K gt t te vs σ H d (f d) (g d)) :
    EvD K (tLc (iList K tl) gt t te vs) σ H (.list ((ds.filter f).map g)) := fun H1 a Q q => h H1 a _ fun v H2 x hd => by
  cases hd with
  | lst hs hx =>
    refine ⟨_, rfl, ⟨_, hs⟩, fun D hD => lc_list (Cd K H2 ds f g D) (cd_start hD) (fun i H' _ p => Evl.ex_l p.2.1 hs) (fun i y H' hi p => ?_) fun H' p => ?_⟩
    · have hi2 : i < ds.length := by rw [← dpAll_len hx]; exact (List.getElem?_eq_some_iff.mp hi).1
      have hd : ds[i]? = some ds[i] := List.getElem?_eq_getElem hi2
      exact ht ds[i] (List.getElem_mem hi2) y H' (a.trans (x.trans p.2.1)) (dp_ex p.2.1 (dpAll_get hx hi hd)) _ fun σ2 w h1 h2 => ⟨w, cd_turn him p hd hz h1 h2⟩
    · rw [dpAll_len hx] at p
      have z := cd_end p
      exact q _ H' (x.trans z.1) z.2
/-- a text's sgns -/
def sgns (z : Str) : List PyData := z.cps.toList.map fun c => .str ⟨#[c]⟩
theorem d_lcS {z : Str} (f : PyData → Bool) (g : PyData → PyData) (h : EvD K tl σ H (.str z)) (hz : z.length ≤ 50000) (him : ∀ d ∈ sgns z, f d = true → imm (g d) = true) (ht : ∀ c ∈ z.cps.toList, Turn K gt t te vs σ H (.str ⟨#[c]⟩) (f (.str ⟨#[c]⟩)) (g (.str ⟨#[c]⟩))) :
    EvD K (tLc (iStr tl) gt t te vs) σ H (.list (((sgns z).filter f).map g)) := fun H1 a Q q => h H1 a _ fun v H2 x hd => by
  cases hd
  have hl : (sgns z).length = z.cps.toList.length := List.length_map ..
  have hl2 : z.cps.toList.length = z.length := Array.length_toList
  refine ⟨z, rfl, fun D hD => lc_str (Cd K H2 (sgns z) f g D) (cd_start hD) (fun i c H' hi p => ?_) fun H' p => ?_⟩
  · have hd : (sgns z)[i]? = some (.str ⟨#[c]⟩) := by unfold sgns; rw [List.getElem?_map, hi]; rfl
    exact ht c (List.mem_of_getElem? hi) _ H' (a.trans (x.trans p.2.1)) (.str _) _ fun σ2 w h1 h2 => ⟨w, cd_turn him p hd (by omega) h1 h2⟩
  · have z := cd_end2 hl p
    exact q _ H' (x.trans z.1) z.2
/-- range(lo, hi) -/
def rngD (lo : Int) (n : Nat) : List PyData := (List.range n).map fun (i : Nat) => .int (lo + i)
theorem d_lcR2 {ta : TA} {lo hi : Int} (f : PyData → Bool) (g : PyData → PyData) (h : EvDs K ta σ H [.int lo, .int hi]) (hn : -1000 ≤ lo ∧ lo ≤ 40000 ∧ -1000 ≤ hi ∧ hi ≤ 40000) (him : ∀ d ∈ rngD lo (hi - lo).toNat, f d = true → imm (g d) = true)
    (ht : ∀ i : Nat, i < (hi - lo).toNat → Turn K gt t te vs σ H (.int (lo + i)) (f (.int (lo + i))) (g (.int (lo + i)))) :
    EvD K (tLc (iRng2 ta) gt t te vs) σ H (.list (((rngD lo (hi - lo).toNat).filter f).map g)) := fun H1 a Q q => ds_ev2 h H1 a _ fun H2 x => by
  have hl : (rngD lo (hi - lo).toNat).length = (hi - lo).toNat := by unfold rngD; rw [List.length_map, List.length_range]
  refine ⟨lo, hi, rfl, by omega, fun D hD => lc_range (lo := lo) (n := (hi - lo).toNat) (Cd K H2 (rngD lo (hi - lo).toNat) f g D) (cd_start hD) (fun i H' hi p => ?_) fun H' p => ?_⟩
  · have hd : (rngD lo (‹Int› - lo).toNat)[i]? = some (.int (lo + i)) := by unfold rngD; rw [List.getElem?_map, List.getElem?_range hi]; rfl
    exact ht i hi _ H' (a.trans (x.trans p.2.1)) (.int _) _ fun σ2 w h1 h2 => ⟨w, cd_turn him p hd (by omega) h1 h2⟩
  · have z := cd_end2 hl p
    exact q _ H' (x.trans z.1) z.2
theorem d_lcR1 {ta : TA} {hi : Int} (f : PyData → Bool) (g : PyData → PyData) (h : EvDs K ta σ H [.int hi]) (hn : -1000 ≤ hi ∧ hi ≤ 40000) (him : ∀ d ∈ rngD 0 hi.toNat, f d = true → imm (g d) = true)
    (ht : ∀ i : Nat, i < hi.toNat → Turn K gt t te vs σ H (.int (0 + i)) (f (.int (0 + i))) (g (.int (0 + i)))) :
    EvD K (tLc (iRng1 ta) gt t te vs) σ H (.list (((rngD 0 hi.toNat).filter f).map g)) := fun H1 a Q q => ds_ev h H1 a _ fun H2 x => by
  have hl : (rngD 0 hi.toNat).length = hi.toNat := by unfold rngD; rw [List.length_map, List.length_range]
  refine ⟨hi, rfl, by omega, by omega, fun D hD => lc_range (lo := 0) (n := hi.toNat) (Cd K H2 (rngD 0 hi.toNat) f g D) (cd_start hD) (fun i H' hi p => ?_) fun H' p => ?_⟩
  · have hd : (rngD 0 (‹Int›).toNat)[i]? = some (.int (0 + i)) := by unfold rngD; rw [List.getElem?_map, List.getElem?_range hi]; rfl
    exact ht i hi _ H' (a.trans (x.trans p.2.1)) (.int _) _ fun σ2 w h1 h2 => ⟨w, cd_turn him p hd (by omega) h1 h2⟩
  · have z := cd_end2 hl p
    exact q _ H' (x.trans z.1) z.2
variable {D : Ends} {tu tw tz : TS}
theorem s_ret {d : PyData} (h : EvD K te σ H d) (k : ∀ v H1, Ex H H1 → Dp K H1 v d → D.rt v H1) : tRet te D σ H := h H (Ex.refl H) _ k
theorem q_asg {i : Nat} {d : PyData} (h : EvD K te σ H d) (k : ∀ v H1, Ex H H1 → Dp K H1 v d → tz D (σ.set i (some v)) H1) : tSeq (tAsg te (gName i)) tz D σ H := h H (Ex.refl H) _ k
theorem s_asg {i : Nat} {d : PyData} (h : EvD K te σ H d) (k : ∀ v H1, Ex H H1 → Dp K H1 v d → D.nx (σ.set i (some v)) H1) : tAsg te (gName i) D σ H := h H (Ex.refl H) _ k
end
end AsKit

set_option maxHeartbeats 4000000
set_option autoImplicit false
/-! words for the defs of the program: names of the top, promises, tests. -/
namespace AsKit
open PySem PySem.Spec PyProof.Rows L2 AsSort
open Evl (Ex Ev EvT EvA)

/-- a def of the top -/
def Df (K : PySem.W.Frag) (mg : Str → Option Value) (x : Str) (st : Stmt) : Prop := ∃ f fd, FunD K x x (defArgs st) (defBody st) (defScope st) [] [] f fd ∧ mg x = some (.ref f)
def blts : List Str := ["isinstance", "int", "bool", "str", "tuple", "list", "dict", "len", "range", "all", "any", "set", "sorted"]
def Bl (mg : Str → Option Value) : Prop := ∀ x, x ∈ blts → mg x = none
/-- a number of the top -/
def Gn (mg : Str → Option Value) (x : Str) (n : Int) : Prop := ∃ u, mg x = some u ∧ RelV (.int n) u
abbrev Cl := C8.Cal
theorem cl_of {P : Program} {w : World} {K : PySem.W.Frag} {mg : Str → Option Value} {base : Heap} {x : Str} {st : Stmt} {N ps : List Str} {k : Nat} {sp : Sp} (D : Df K mg x st) (S : FnScope N ps (defScope st)) (len : ∀ vs H Q E, sp vs H Q E → vs.length = ps.length)
    (hb : ∀ (kV doc pm : Value) (an : Option Addr) (cdv ct : Value) (us : List Value), us.length = ps.length → bindArgs (PySem.W.fnOf x x (defArgs st) (defBody st) (defScope st) .none kV doc pm an cdv ct) ⟨us, []⟩ = pure (ps.zip us))
    (hbody : ∀ (f : Addr) (cdv : Value) (A : Around) (outer : List Env) (s : Shared) (H : Hp) (vs : List V) (Q : VK) (E : XK), Room k (A.deeper (envOfC x (defScope st) s.heap.objs.size f cdv)) → sp vs H Q E →
      ∃ t, PSs (cxOf CX0 P w K mg base N x (defScope st) f cdv A outer s H E).nox (defBody st) t ∧ t { nx := fun _ H' => Q .non H', rt := Q } (start N vs) H) : Cl P w K mg base (k + 1) x sp [] := by
  obtain ⟨f, fd, F, hm⟩ := D
  exact ⟨f, fd, ps, [], F.ok S len fun cdv A outer s H vs Q E hr h => let ⟨t, z, q⟩ := hbody f cdv A outer s H vs Q E hr h; ⟨t, PSs.nox z, q⟩, hm, F.kp, F.bindsN hb, .nil⟩
/-- .. with its address and its parameters' names -/
def Kl (P : Program) (w : World) (K : PySem.W.Frag) (mg : Str → Option Value) (base : Heap) (k : Nat) (x : Str) (ps : List Str) (sp : Sp) : Prop := ∃ f fd, FnOk P w K mg base CX0 k f fd ps sp ∧ mg x = some (.ref f) ∧ PySem.W.keepIn K (.ref f) = true ∧ Binds K fd ps []
theorem kl_of {P : Program} {w : World} {K : PySem.W.Frag} {mg : Str → Option Value} {base : Heap} {x : Str} {st : Stmt} {N ps : List Str} {k : Nat} {sp : Sp} (D : Df K mg x st) (S : FnScope N ps (defScope st)) (len : ∀ vs H Q E, sp vs H Q E → vs.length = ps.length)
    (hb : ∀ (kV doc pm : Value) (an : Option Addr) (cdv ct : Value) (us : List Value), us.length = ps.length → bindArgs (PySem.W.fnOf x x (defArgs st) (defBody st) (defScope st) .none kV doc pm an cdv ct) ⟨us, []⟩ = pure (ps.zip us))
    (hbody : ∀ (f : Addr) (cdv : Value) (A : Around) (outer : List Env) (s : Shared) (H : Hp) (vs : List V) (Q : VK) (E : XK), Room k (A.deeper (envOfC x (defScope st) s.heap.objs.size f cdv)) → sp vs H Q E →
      ∃ t, PSs (cxOf CX0 P w K mg base N x (defScope st) f cdv A outer s H E).nox (defBody st) t ∧ t { nx := fun _ H' => Q .non H', rt := Q } (start N vs) H) : Kl P w K mg base (k + 1) x ps sp := by
  obtain ⟨f, fd, F, hm⟩ := D
  exact ⟨f, fd, F.ok S len fun cdv A outer s H vs Q E hr h => let ⟨t, z, q⟩ := hbody f cdv A outer s H vs Q E hr h; ⟨t, PSs.nox z, q⟩, hm, F.kp, F.bindsN hb⟩
theorem fnok_of {P : Program} {w : World} {K : PySem.W.Frag} {mg : Str → Option Value} {base : Heap} {x : Str} {st : Stmt} {N ps : List Str} {k : Nat} {sp : Sp} {f : Addr} {fd : FuncData} (F : FunD K x x (defArgs st) (defBody st) (defScope st) [] [] f fd) (S : FnScope N ps (defScope st)) (len : ∀ vs H Q E, sp vs H Q E → vs.length = ps.length)
    (hbody : ∀ (f : Addr) (cdv : Value) (A : Around) (outer : List Env) (s : Shared) (H : Hp) (vs : List V) (Q : VK) (E : XK), Room k (A.deeper (envOfC x (defScope st) s.heap.objs.size f cdv)) → sp vs H Q E →
      ∃ t, PSs (cxOf CX0 P w K mg base N x (defScope st) f cdv A outer s H E).nox (defBody st) t ∧ t { nx := fun _ H' => Q .non H', rt := Q } (start N vs) H) : FnOk P w K mg base CX0 (k + 1) f fd ps sp :=
  F.ok S len fun cdv A outer s H vs Q E hr h => let ⟨t, z, q⟩ := hbody f cdv A outer s H vs Q E hr h; ⟨t, PSs.nox z, q⟩
theorem Kl.cl {P : Program} {w : World} {K : PySem.W.Frag} {mg : Str → Option Value} {base : Heap} {k : Nat} {x : Str} {ps : List Str} {sp : Sp} (h : Kl P w K mg base k x ps sp) : Cl P w K mg base k x sp [] := by
  obtain ⟨f, fd, F, hm, kp, b⟩ := h
  exact ⟨f, fd, ps, [], F, hm, kp, b, .nil⟩
section
variable {K : PySem.W.Frag} {σ : L2.St} {H H' : Hp} {ta tb tc te tl : TE} {t u : TT} {d e : PyData} {ds : List PyData}
theorem len_sp {K : PySem.W.Frag} {pre : List PyData → Prop} {g : List PyData → PyData} {n : Nat} (h : ∀ ds, pre ds → ds.length = n) : ∀ vs H Q E, spP K pre g vs H Q E → vs.length = n := fun vs H Q E ⟨ds, a, b, _⟩ => (dpAll_len a).trans (h ds b)
/-- chains -/
theorem d_chI {g1 g2 : Int → Int → Bool} {i j k : Int} (h1 : EvD K ta σ H (.int i)) (h2 : EvD K tb σ H (.int j)) (h3 : g1 i j = true → EvD K tc σ H (.int k)) :
    EvD K (tChain (rI0 fun i j => .bl (g1 i j)) (rI0 fun i j => .bl (g2 i j)) ta tb tc) σ H (.bool (g1 i j && g2 j k)) := fun H1 a Q q =>
  h1 H1 a _ fun v H2 x hd => h2 H2 (a.trans x) _ fun w H3 y he => by
    cases hd
    cases he
    refine ⟨i, j, rfl, rfl, _, rfl, ?_⟩
    cases hg : g1 i j with
    | true =>
      refine h3 hg H3 (a.trans (x.trans y)) _ fun z H4 u hz => ?_
      cases hz
      exact ⟨j, k, rfl, rfl, q _ H4 ((x.trans y).trans u) (by rw [hg]; exact .bl _)⟩
    | false => exact q _ H3 (x.trans y) (by rw [hg]; exact .bl false)
theorem d_chS {g1 g2 : Str → Str → Bool} {i j k : Str} (h1 : EvD K ta σ H (.str i)) (h2 : EvD K tb σ H (.str j)) (h3 : EvD K tc σ H (.str k)) :
    EvD K (tChain (fun x y H Q => ∃ i j, x = .str i ∧ y = .str j ∧ Q (.bl (g1 i j)) H) (fun x y H Q => ∃ i j, x = .str i ∧ y = .str j ∧ Q (.bl (g2 i j)) H) ta tb tc) σ H (.bool (g1 i j && g2 j k)) := fun H1 a Q q =>
  h1 H1 a _ fun v H2 x hd => h2 H2 (a.trans x) _ fun w H3 y he => by
    cases hd
    cases he
    refine ⟨i, j, rfl, rfl, _, rfl, ?_⟩
    cases hg : g1 i j with
    | true =>
      refine h3 H3 (a.trans (x.trans y)) _ fun z H4 u hz => ?_
      cases hz
      exact ⟨j, k, rfl, rfl, q _ H4 ((x.trans y).trans u) (by rw [hg]; exact .bl _)⟩
    | false => exact q _ H3 (x.trans y) (by rw [hg]; exact .bl false)
/-- is d of the built-in class T -/
def isD (T : String) (d : PyData) : Bool := match kitB (tyName d) T with
  | some b => b
  | none => false
def names7 : List String := ["NoneType", "bool", "int", "str", "list", "tuple", "dict"]
theorem ty7 : ∀ d : PyData, tyName d ∈ names7
  | .none => by decide +kernel
  | .bool _ => (by decide +kernel : ("bool" : String) ∈ names7)
  | .int _ => (by decide +kernel : ("int" : String) ∈ names7)
  | .str _ => (by decide +kernel : ("str" : String) ∈ names7)
  | .list _ => (by decide +kernel : ("list" : String) ∈ names7)
  | .tuple _ => (by decide +kernel : ("tuple" : String) ∈ names7)
  | .dict _ => (by decide +kernel : ("dict" : String) ∈ names7)
theorem isD_kit {T : String} (h : (names7.all fun y => (kitB y T).isSome) = true) (d : PyData) : kitB (tyName d) T = some (isD T d) := by
  have z := List.all_eq_true.mp h _ (ty7 d)
  unfold isD
  cases e : kitB (tyName d) T with
  | none => rw [e] at z; cases z
  | some b => rfl
theorem d_isD {T : String} (h : EvD K te σ H d) (hk : (names7.all fun y => (kitB y T).isSome) = true := by decide +kernel) : EvD K (tCB (rIsi K) (tCons te (tCons (tC (.ty T)) tNil))) σ H (.bool (isD T d)) := d_isi h (isD_kit hk d)
theorem isD_str {d : PyData} (h : isD "str" d = true) : ∃ z, d = .str z := by
  have z : ∀ y ∈ names7, y ≠ "str" → kitB y "str" = some false := by decide +kernel
  cases d with
  | str x => exact ⟨x, rfl⟩
  | _ => exact absurd h (by unfold isD; rw [z _ (ty7 _) (by show _ ≠ _; simp only [tyName]; decide)]; decide)
theorem isD_tup {d : PyData} (h : isD "tuple" d = true) : ∃ z, d = .tuple z := by
  have z : ∀ y ∈ names7, y ≠ "tuple" → kitB y "tuple" = some false := by decide +kernel
  cases d with
  | tuple x => exact ⟨x, rfl⟩
  | _ => exact absurd h (by unfold isD; rw [z _ (ty7 _) (by show _ ≠ _; simp only [tyName]; decide)]; decide)
theorem isD_str1 (z : Str) : isD "str" (.str z) = true := (by decide +kernel : (match kitB "str" "str" with | some b => b | none => false) = true)
theorem isD_tup1 (z : List PyData) : isD "tuple" (.tuple z) = true := (by decide +kernel : (match kitB "tuple" "tuple" with | some b => b | none => false) = true)
def one (g : PyData → PyData) : List PyData → PyData
  | [d] => g d
  | _ => .none
def two (g : PyData → PyData → PyData) : List PyData → PyData
  | [d, e] => g d e
  | _ => .none
def three (g : PyData → PyData → PyData → PyData) : List PyData → PyData
  | [d, e, f] => g d e f
  | _ => .none
def four (g : PyData → PyData → PyData → PyData → PyData) : List PyData → PyData
  | [d, e, f, u] => g d e f u
  | _ => .none
/-- ints compared -/
theorem d_cmpI {g : Int → Int → Bool} {i j : Int} (h1 : EvD K ta σ H (.int i)) (h2 : EvD K tb σ H (.int j)) : EvD K (tOp (rI0 fun i j => .bl (g i j)) ta tb) σ H (.bool (g i j)) := d_opI (z := .non) h1 h2 fun _ => .bl _
theorem d_cmpS {g : Str → Str → Bool} {i j : Str} (h1 : EvD K ta σ H (.str i)) (h2 : EvD K tb σ H (.str j)) : EvD K (tOp (fun x y H Q => ∃ i j, x = .str i ∧ y = .str j ∧ Q (.bl (g i j)) H) ta tb) σ H (.bool (g i j)) := d_opS h1 h2 fun _ => .bl _
theorem d_arI {g : Int → Int → Int} {i j : Int} (h1 : EvD K ta σ H (.int i)) (h2 : EvD K tb σ H (.int j)) : EvD K (tOp (rI0 fun i j => .int (g i j)) ta tb) σ H (.int (g i j)) := d_opI (z := .non) h1 h2 fun _ => .int _
/-- an if whose test is known -/
theorem s_ifD {D : Ends} {tu tw : TS} {b : Bool} (h : EvT t σ H b) (h1 : b = true → ∀ H1, Ex H H1 → tu D σ H1) (h2 : b = false → ∀ H1, Ex H H1 → tw D σ H1) : tIfS t tu tw D σ H := Evl.s_if h h1 h2
theorem at_dp {i : Nat} {v : V} (h : σ[i]? = some (some v)) (hd : Dp K H v d) : At K σ H i d := ⟨v, h, hd⟩
theorem s_exprD {D : Ends} (h : EvD K te σ H d) (k : ∀ H1, Ex H H1 → D.nx σ H1) : tDrop te D σ H := h H (Ex.refl H) _ fun _ H1 e _ => k H1 e
theorem q_exprD {D : Ends} {tz : TS} (h : EvD K te σ H d) (k : ∀ H1, Ex H H1 → tz D σ H1) : tSeq (tDrop te) tz D σ H := h H (Ex.refl H) _ fun _ H1 e _ => k H1 e
/-- a list that grows: at l, unknown in H0 -/
def Ac (K : PySem.W.Frag) (H0 : Hp) (l : Addr) (ds : List PyData) (H' : Hp) : Prop := H0 l = none ∧ Ex H0 H' ∧ ∃ acc, H' l = some (.lst acc) ∧ DpAll K H' acc ds
theorem ac_new {H0 H1 : Hp} {l : Addr} (h : H0 l = none) (e : Ex H0 H1) (h2 : H1 l = some (.lst [])) : Ac K H0 l [] H1 := ⟨h, e, [], h2, .nil⟩
theorem Ac.mono {H0 H1 H2 : Hp} {l : Addr} (a : Ac K H0 l ds H1) (e : Ex H1 H2) : Ac K H0 l ds H2 := let ⟨h1, h2, acc, h3, h4⟩ := a; ⟨h1, h2.trans e, acc, e _ _ h3, dpAll_ex e h4⟩
theorem ac_app {H0 H1 : Hp} {l : Addr} {acc : List V} {v : V} (h1 : H0 l = none) (h2 : Ex H0 H1) (h3 : H1 l = some (.lst acc)) (h4 : DpAll K H1 acc ds) (him : immAll ds = true) (hd : imm d = true) (hv : Dp K H1 v d) : Ac K H0 l (ds ++ [d]) (upd H1 l (.lst (acc ++ [v]))) :=
  ⟨h1, Ex.mut h2 h1, acc ++ [v], upd_same, dpAll_snoc (dp_tu (tu_lst h3) hd hv) (dpAll_tu (tu_lst h3) him h4)⟩
/-- l.append(e) -/
theorem s_appD {D : Ends} {i : Nat} {H0 : Hp} {l : Addr} (hσ : σ[i]? = some (some (.ref l))) (a : Ac K H0 l ds H) (h : EvD K te σ H d) (him : immAll ds = true) (hd : imm d = true) (hz : ds.length < 100000) (k : ∀ H1, Ac K H0 l (ds ++ [d]) H1 → D.nx σ H1) :
    tDrop (tBM K "list" rAppend (tVar i) (tCons te tNil)) D σ H := by
  obtain ⟨h1, h2, acc, h3, h4⟩ := a
  refine ⟨_, hσ, .inl ⟨rfl, acc, Evl.sq_of h3⟩, h H (Ex.refl H) _ fun v H1 e hv => ?_⟩
  exact ⟨l, acc, v, rfl, rfl, e l _ h3, Evl.sz_lt (by rw [dpAll_len h4]; exact hz), k _ (ac_app h1 (h2.trans e) (e l _ h3) (dpAll_ex e h4) him hd hv)⟩
theorem ac_dp {H0 H1 : Hp} {l : Addr} (a : Ac K H0 l ds H1) : Dp K H1 (.ref l) (.list ds) := let ⟨_, _, _, h3, h4⟩ := a; .lst (Evl.sq_of h3) h4
/-- for x in a list of data that stays; what is known of it, it had in H0 -/
theorem s_forLD {D : Ends} {tu : TS} {g : TG} {H0 : Hp} {v : V} {i : Nat} (hσ : σ[i]? = some (some v)) (hv : Dp K H0 v (.list ds)) (e : Ex H0 H) (Pv : Nat → L2.St → Hp → Prop) (h0 : Pv 0 σ H) (hx : ∀ j σ' H', Pv j σ' H' → Ex H0 H')
    (hs : ∀ j d x σ' H', ds[j]? = some d → Dp K H' x d → Pv j σ' H' → g x σ' H' fun σ2 H2 => tu { D with nx := Pv (j + 1), ct := Pv (j + 1), bk := D.nx } σ2 H2) (hd : ∀ σ' H', Pv ds.length σ' H' → D.nx σ' H') : tFor (iList K (tVar i)) g tu D σ H := by
  cases hv with
  | lst hq hl =>
    refine ⟨_, hσ, _, rfl, ⟨_, Evl.ex_l e hq⟩, for_list Pv h0 (fun j σ' H' _ p => Evl.ex_l (hx j σ' H' p) hq) (fun j x σ' H' hj p => ?_) fun σ' H' p => hd σ' H' (by rw [← dpAll_len hl]; exact p)⟩
    have hj2 : j < ds.length := by rw [← dpAll_len hl]; exact (List.getElem?_eq_some_iff.mp hj).1
    have hd2 : ds[j]? = some ds[j] := List.getElem?_eq_getElem hj2
    exact hs j _ x σ' H' hd2 (dp_ex (hx j σ' H' p) (dpAll_get hl hj hd2)) p
theorem s_forTD {D : Ends} {tu : TS} {g : TG} {H0 : Hp} {v : V} {i : Nat} (hσ : σ[i]? = some (some v)) (hv : Dp K H0 v (.tuple ds)) (e : Ex H0 H) (Pv : Nat → L2.St → Hp → Prop) (h0 : Pv 0 σ H) (hx : ∀ j σ' H', Pv j σ' H' → Ex H0 H')
    (hs : ∀ j d x σ' H', ds[j]? = some d → Dp K H' x d → Pv j σ' H' → g x σ' H' fun σ2 H2 => tu { D with nx := Pv (j + 1), ct := Pv (j + 1), bk := D.nx } σ2 H2) (hd : ∀ σ' H', Pv ds.length σ' H' → D.nx σ' H') : tFor (iTup K (tVar i)) g tu D σ H := by
  cases hv with
  | tup hq hl =>
    refine ⟨_, hσ, _, rfl, ⟨_, Evl.ex_t e hq⟩, for_tup Pv h0 (fun j σ' H' _ p => Evl.ex_t (hx j σ' H' p) hq) (fun j x σ' H' hj p => ?_) fun σ' H' p => hd σ' H' (by rw [← dpAll_len hl]; exact p)⟩
    have hj2 : j < ds.length := by rw [← dpAll_len hl]; exact (List.getElem?_eq_some_iff.mp hj).1
    have hd2 : ds[j]? = some ds[j] := List.getElem?_eq_getElem hj2
    exact hs j _ x σ' H' hd2 (dp_ex (hx j σ' H' p) (dpAll_get hl hj hd2)) p
/-- ints, where the operation asks something of them -/
theorem d_opC {C : Int → Int → Prop} {g : Int → Int → Int} {i j : Int} (h : EvD K ta σ H (.int i)) (h2 : EvD K tb σ H (.int j)) (hc : C i j) : EvD K (tOp (rI C fun i j => .int (g i j)) ta tb) σ H (.int (g i j)) := fun H1 a Q q =>
  h H1 a _ fun v H2 x hd => h2 H2 (a.trans x) _ fun w H3 y he => by
    cases hd
    cases he
    exact ⟨i, j, rfl, rfl, hc, q _ H3 (x.trans y) (.int _)⟩
/-- int(x) -/
def rInt1 : List V → Hp → VK → Prop := fun xs H Q => (∃ i, xs = [.int i] ∧ Q (.int i) H) ∨ ∃ k, xs = [.bl k] ∧ Q (.int (if k then 1 else 0)) H
theorem d_int1 {i : Int} (h : EvD K te σ H (.int i)) : EvD K (tCB rInt1 (tCons te tNil)) σ H (.int i) := fun H1 a Q q =>
  h H1 a _ fun v H2 x hd => by
    cases hd
    exact .inl ⟨i, rfl, q _ H2 x (.int i)⟩
/-- xs[j] = a number -/
theorem q_setI {D : Ends} {tz : TS} {i : Nat} {l : Addr} {xs : List V} {j : Nat} {x : Int} (hσ : σ[i]? = some (some (.ref l))) (hl : H l = some (.lst xs)) (h : EvD K te σ H (.int x)) (hi : EvD K tb σ H (.int (j : Int))) (hj : j < xs.length) (k : ∀ H1, Ex H H1 → tz D σ (upd H1 l (.lst (xs.set j (.int x))))) :
    tSeq (tAsg te (gSub (tVar i) tb rSetL)) tz D σ H := Evl.q_setL hl (ev_int h) (Evl.ev_var hσ) (ev_int hi) hj k
theorem s_setI {D : Ends} {i : Nat} {l : Addr} {xs : List V} {j : Nat} {x : Int} (hσ : σ[i]? = some (some (.ref l))) (hl : H l = some (.lst xs)) (h : EvD K te σ H (.int x)) (hi : EvD K tb σ H (.int (j : Int))) (hj : j < xs.length) (k : ∀ H1, Ex H H1 → D.nx σ (upd H1 l (.lst (xs.set j (.int x))))) :
    tAsg te (gSub (tVar i) tb rSetL) D σ H := Evl.s_setL hl (ev_int h) (Evl.ev_var hσ) (ev_int hi) hj k
theorem dp_ints {G : Hp} : ∀ ns : List Int, DpAll K G (ns.map V.int) (ns.map PyData.int)
  | [] => .nil
  | n :: ns => .cons (.int n) (dp_ints ns)
/-- a tuple of two taken apart -/
theorem g_two {i j : Nat} {a b : PyData} {x : V} {k : L2.St → Hp → Prop} (hd : Dp K H x (.tuple [a, b])) (h : ∀ va vb, Dp K H va a → Dp K H vb b → k ((σ.set i (some va)).set j (some vb)) H) : gTup K 2 (gCons (gName i) (gCons (gName j) gNil)) x σ H k := by
  cases hd with
  | tup hs hx =>
    cases hx with
    | cons h1 hx =>
      cases hx with
      | cons h2 hx =>
        cases hx
        exact ⟨_, _, rfl, hs, rfl, _, _, rfl, _, _, rfl, rfl, h _ _ h1 h2⟩
theorem g_three {i j l : Nat} {a b c : PyData} {x : V} {k : L2.St → Hp → Prop} (hd : Dp K H x (.tuple [a, b, c])) (h : ∀ va vb vc, Dp K H va a → Dp K H vb b → Dp K H vc c → k (((σ.set i (some va)).set j (some vb)).set l (some vc)) H) : gTup K 3 (gCons (gName i) (gCons (gName j) (gCons (gName l) gNil))) x σ H k := by
  cases hd with
  | tup hs hx =>
    cases hx with
    | cons h1 hx =>
      cases hx with
      | cons h2 hx =>
        cases hx with
        | cons h3 hx =>
          cases hx
          exact ⟨_, _, rfl, hs, rfl, _, _, rfl, _, _, rfl, _, _, rfl, rfl, h _ _ _ h1 h2 h3⟩
end
section
variable {X : Cx} {e : Expr} {es : List Expr} {te : TE} {ta : TA} {p pos : Pos}
theorem pe_gn {x : Str} {n : Int} (h : Gn X.mg x n) (hg : Gl X x := by rfl) (hd : (x == ("__debug__" : Str)) = false := by decide) : PE X (.Name x pos) (tC (.int n)) := C8.pe_gc hg h hd
/-- isinstance(e, T) -/
theorem pe_isi {x : Str} {T : String} {p2 : Pos} (hb : Bl X.mg) (he : PE X e te) (hg : Gl X "isinstance" := by rfl) (hg2 : Gl X x := by rfl) (hx : x ∈ blts := by decide +kernel) (hv : bootBuiltins x = some (.type T) := by decide +kernel) (hn : x ≠ "__name__" := by decide) (hd : (x == ("__debug__" : Str)) = false := by decide)
    (hs : starEach [e, .Name x p2] X.env = (false, eval e X.env) :: starEach [.Name x p2] X.env := by rfl) : PE X (.Call (.Name "isinstance" p) [e, .Name x p2] [] pos) (tCB (rIsi X.K) (tCons te (tCons (tC (.ty T)) tNil))) :=
  pe_callB call_isi hg (hb _ (by decide +kernel)) (by decide +kernel) (pa_cons he (pa_cons (pe_bltn hg2 (hb _ hx) hv rfl hn hd) pa_nil) hs) (he := hs)
theorem pe_lenQ (hb : Bl X.mg) (he : PE X e te) (hg : Gl X "len" := by rfl) (hs : starEach [e] X.env = (false, eval e X.env) :: starEach [] X.env := by rfl) : PE X (.Call (.Name "len" p) [e] [] pos) (tCB (rLenQ X.K) (tCons te tNil)) :=
  pe_callB call_len_seq hg (hb _ (by decide +kernel)) (by decide +kernel) (pa_cons he pa_nil hs) (he := hs)
theorem pe_lenS (hb : Bl X.mg) (he : PE X e te) (hg : Gl X "len" := by rfl) (hs : starEach [e] X.env = (false, eval e X.env) :: starEach [] X.env := by rfl) : PE X (.Call (.Name "len" p) [e] [] pos) (tCB rLenTx (tCons te tNil)) :=
  pe_callB call_len_str hg (hb _ (by decide +kernel)) (by decide +kernel) (pa_cons he pa_nil hs) (he := hs)
theorem pe_allL (hc : X.calm = true) (hb : Bl X.mg) (he : PE X e te) (hg : Gl X "all" := by rfl) (hs : starEach [e] X.env = (false, eval e X.env) :: starEach [] X.env := by rfl) : PE X (.Call (.Name "all" p) [e] [] pos) (tCB (rAll X.K) (tCons te tNil)) :=
  pe_callB (cr_all hc) hg (hb _ (by decide +kernel)) (by decide +kernel) (pa_cons he pa_nil hs) (he := hs)
theorem pe_anyL (hc : X.calm = true) (hb : Bl X.mg) (he : PE X e te) (hg : Gl X "any" := by rfl) (hs : starEach [e] X.env = (false, eval e X.env) :: starEach [] X.env := by rfl) : PE X (.Call (.Name "any" p) [e] [] pos) (tCB (rAny X.K) (tCons te tNil)) :=
  pe_callB (cr_any hc) hg (hb _ (by decide +kernel)) (by decide +kernel) (pa_cons he pa_nil hs) (he := hs)
theorem pe_tupQ (hb : Bl X.mg) (he : PE X e te) (hg : Gl X "tuple" := by rfl) (hs : starEach [e] X.env = (false, eval e X.env) :: starEach [] X.env := by rfl) : PE X (.Call (.Name "tuple" p) [e] [] pos) (tCB (rTupQ X.K) (tCons te tNil)) :=
  pe_callTy call_tuple_of hg (hb _ (by decide +kernel)) (by decide +kernel) (pa_cons he pa_nil hs) (he := hs)
theorem pe_int1 (hb : Bl X.mg) (he : PE X e te) (hg : Gl X "int" := by rfl) (hs : starEach [e] X.env = (false, eval e X.env) :: starEach [] X.env := by rfl) : PE X (.Call (.Name "int" p) [e] [] pos) (tCB rInt1 (tCons te tNil)) :=
  pe_callTy call_int1 hg (hb _ (by decide +kernel)) (by decide +kernel) (pa_cons he pa_nil hs) (he := hs)
/-- a list comprehension; j: the slot of its one name -/
theorem pe_lcn {elt iter : Expr} {ifs : List Expr} {scope : Scope} {pos : Pos} {wi : TI} {tt : TT} {te : TE} {y : Str} {yp : Pos} (j : Nat) (hN : X.N.Nodup) (hi : PI X (.Name y yp) iter wi)
    (ht : ∀ (s : Shared) (H : Hp) (C : Addr) (cl : List (Str × Addr)) (fp : List Addr), PTs (X.blk s H scope (compEnvC scope cl C X.env) fp) ifs tt)
    (he : ∀ (s : Shared) (H : Hp) (C : Addr) (cl : List (Str × Addr)) (fp : List Addr), PE (X.blk s H scope (compEnvC scope cl C X.env) fp) elt te)
    (hg : ∀ (s : Shared) (H : Hp) (C : Addr) (cl : List (Str × Addr)) (fp : List Addr), PG (X.blk s H scope (compEnvC scope cl C X.env) fp) (.Name y yp) (gName j)) (ok : BlkOk X.N X.env.scope scope [(y, j)]) (hc : X.calm = true)
    (hs : ∀ x, foldedSetIterable iter X.env x = pure x := by intro _; rfl) :
    PE X (.ListComp elt [⟨.Name y yp, iter, ifs, 0⟩] scope pos) (tLc wi (gName j) tt te [j]) := pe_lc (own := [(y, j)]) hc hN hi ok hg ht he hs
/-- y = [..], j the slot of the comprehension's one name -/
theorem ps_setLcn {i : Nat} {y : Str} {py : Pos} {elt iter : Expr} {ifs : List Expr} {scope : Scope} {pos spos : Pos} {wi : TI} {tt : TT} {te : TE} {y2 : Str} {yp : Pos} (j : Nat) (hN : X.N.Nodup) (hi : PI X (.Name y2 yp) iter wi)
    (ht : ∀ (s : Shared) (H : Hp) (C : Addr) (cl : List (Str × Addr)) (fp : List Addr), PTs (X.blk s H scope (compEnvC scope cl C X.env) fp) ifs tt)
    (he : ∀ (s : Shared) (H : Hp) (C : Addr) (cl : List (Str × Addr)) (fp : List Addr), PE (X.blk s H scope (compEnvC scope cl C X.env) fp) elt te)
    (hg : ∀ (s : Shared) (H : Hp) (C : Addr) (cl : List (Str × Addr)) (fp : List Addr), PG (X.blk s H scope (compEnvC scope cl C X.env) fp) (.Name y2 yp) (gName j)) (ok : BlkOk X.N X.env.scope scope [(y2, j)]) (hc : X.calm = true)
    (hy : X.N[i]? = some y) (hyl : X.env.scope.names.lookup y = some .local) (hsw : swapsWith (.ListComp elt [⟨.Name y2 yp, iter, ifs, 0⟩] scope pos) (some (.Name y py)) spos.line X.env = pure true)
    (hs : ∀ x, foldedSetIterable iter X.env x = pure x := by intro _; rfl) :
    PS X (.Assign [.Name y py] (.ListComp elt [⟨.Name y2 yp, iter, ifs, 0⟩] scope pos) spos) (tAsg (tLc wi (gName j) tt te [j]) (gName i)) := ps_setLc (own := [(y2, j)]) hc hN hy hyl hsw hi ok hg ht he hs
end
section
variable {K : PySem.W.Frag} {H : Hp}
theorem dp1 {vs : List V} {a : PyData} (h : DpAll K H vs [a]) : ∃ x, vs = [x] ∧ Dp K H x a := by
  cases h with
  | cons h1 h =>
    cases h
    exact ⟨_, rfl, h1⟩
theorem dp2 {vs : List V} {a b : PyData} (h : DpAll K H vs [a, b]) : ∃ x y, vs = [x, y] ∧ Dp K H x a ∧ Dp K H y b := by
  cases h with
  | cons h1 h =>
    obtain ⟨y, rfl, h2⟩ := dp1 h
    exact ⟨_, _, rfl, h1, h2⟩
theorem dp3 {vs : List V} {a b c : PyData} (h : DpAll K H vs [a, b, c]) : ∃ x y z, vs = [x, y, z] ∧ Dp K H x a ∧ Dp K H y b ∧ Dp K H z c := by
  cases h with
  | cons h1 h =>
    obtain ⟨y, z, rfl, h2, h3⟩ := dp2 h
    exact ⟨_, _, _, rfl, h1, h2, h3⟩
theorem dp4 {vs : List V} {a b c d : PyData} (h : DpAll K H vs [a, b, c, d]) : ∃ x y z u, vs = [x, y, z, u] ∧ Dp K H x a ∧ Dp K H y b ∧ Dp K H z c ∧ Dp K H u d := by
  cases h with
  | cons h1 h =>
    obtain ⟨y, z, u, rfl, h2, h3, h4⟩ := dp3 h
    exact ⟨_, _, _, _, rfl, h1, h2, h3, h4⟩
/-- a text, if at all, of a length that can be told -/
def Tx (d : PyData) : Prop := ∀ z, d = .str z → z.length ≤ 40000
end
end AsKit

set_option maxHeartbeats 4000000
set_option autoImplicit true
/-! len(set(xs)), xs a tuple of tuples of texts and ints. -/
namespace AsSet
open PySem PySem.Spec PyProof.Rows L2

/-- the tuple at b holds the ints and texts ks -/
abbrev Tk (P : Program) (w : World) (h : Heap) (ks : List Key) (b : Addr) : Prop := IsTupleKey (mixKind P w) h ks b
abbrev hk (P : Program) (w : World) (ks : List Key) : Int := tupleKeyHash (mixKind P w) ks
abbrev KT := Addr × List Key

section
variable {P : Program} {w : World} {A : Around} {E : Value → Shared → Prop} {s : Shared}
theorem items_kinds {ks : List Key} {vs : List Value} (h : ItemsAre (mixKind P w) ks vs) : ∀ v ∈ vs, (∃ i t, v = Value.int i t) ∨ ∃ x t, v = Value.str x t := by
  induction h with
  | nil => intro v hv; cases hv
  | @cons k v ks vs h1 _ ih =>
    intro u hu
    rcases List.mem_cons.mp hu with e | hu
    · rw [e]
      rcases keyIs_shape (show keyIs k v = true from h1) with ⟨i, t, _, e2⟩ | ⟨x, t, _, e2⟩
      · exact .inl ⟨i, t, e2⟩
      · exact .inr ⟨x, t, e2⟩
    · exact ih u hu
theorem noClass_item (n : Nat) {v : Value} (h : (∃ i t, v = Value.int i t) ∨ ∃ x t, v = Value.str x t) : ofAClassStatement n v = pure false := by
  rcases h with ⟨i, t, rfl⟩ | ⟨x, t, rfl⟩ <;> cases n <;> rfl
theorem byValue_item (n : Nat) {v : Value} (h : (∃ i t, v = Value.int i t) ∨ ∃ x t, v = Value.str x t) : ∃ b, hashByValue n v = pure b := by
  rcases h with ⟨i, t, rfl⟩ | ⟨x, t, rfl⟩
  · exact ⟨true, by cases n <;> rfl⟩
  · exact ⟨false, by cases n <;> rfl⟩
theorem noClass {ks : List Key} {b : Addr} {Q : Bool → Shared → Prop} (T : Tk P w s.heap ks b) (q : Q false s) : wpAny (model P w) A (ofAClassStatement 8 (.ref b)) Q E s := by
  have ty := T.typeIs
  obtain ⟨o, its, n, ho, _, hd, hi⟩ := T
  have hall := items_kinds hi
  unfold ofAClassStatement
  refine wpAny_bind (wpAny_typeOf ty ?_)
  dsimp only
  simp only [show (("tuple" : String) == "tuple") = true from by decide, if_true, Bool.not_true, Bool.false_eq_true, if_false]
  try refine wpAny_bind (wpAny_pure ?_)
  try simp only [Bool.not_true, Bool.false_eq_true, if_false]
  show wpAny _ _ (seqItems? (.ref b) >>= _) _ _ s
  refine wpAny_bind (wpAny_seqItems ho hd (wpAny_bind ?_))
  show wpAny _ _ (forIn its _ _) _ _ s
  rw [← Array.forIn_toList]
  refine wpAny_forIn_list _ (fun l r z => r.1 = none ∧ z = s ∧ ∀ v ∈ l, (∃ i t, v = Value.int i t) ∨ ∃ x t, v = Value.str x t) _ (fun v l r z hz => ?_) (fun r z hz => ?_) _ _ ⟨rfl, rfl, hall⟩
  · obtain ⟨_, rfl, hv⟩ := hz
    rw [noClass_item _ (hv v List.mem_cons_self)]
    refine wpAny_bind (wpAny_pure ?_)
    simp only [Bool.false_eq_true, if_false]
    exact wpAny_pure ⟨rfl, rfl, fun u hu => hv u (List.mem_cons_of_mem _ hu)⟩
  · obtain ⟨r1, r2⟩ := r
    obtain ⟨e, rfl, _⟩ := hz
    simp only at e
    subst e
    exact wpAny_pure q
theorem byValue {ks : List Key} {b : Addr} {Q : Bool → Shared → Prop} (T : Tk P w s.heap ks b) (q : ∀ c, Q c s) : wpAny (model P w) A (hashByValue 8 (.ref b)) Q E s := by
  have ty := T.typeIs
  obtain ⟨o, its, n, ho, _, hd, hi⟩ := T
  have hall := items_kinds hi
  unfold hashByValue
  refine wpAny_bind (wpAny_specialOf ty F.slot_tuple_hash.lookup ?_)
  show wpAny _ _ (seqItems? (.ref b) >>= _) _ _ s
  refine wpAny_bind (wpAny_seqItems ho hd (wpAny_bind ?_))
  show wpAny _ _ (forIn its _ _) _ _ s
  rw [← Array.forIn_toList]
  refine wpAny_forIn_list _ (fun l r z => r.1 = none ∧ z = s ∧ ∀ v ∈ l, (∃ i t, v = Value.int i t) ∨ ∃ x t, v = Value.str x t) _ (fun v l r z hz => ?_) (fun r z hz => ?_) _ _ ⟨rfl, rfl, hall⟩
  · obtain ⟨_, rfl, hv⟩ := hz
    obtain ⟨c, ec⟩ := byValue_item 7 (hv v List.mem_cons_self)
    rw [ec]
    refine wpAny_bind (wpAny_pure ?_)
    cases c with
    | true =>
      simp only [Bool.not_true, Bool.false_eq_true, if_false]
      exact wpAny_pure ⟨rfl, rfl, fun u hu => hv u (List.mem_cons_of_mem _ hu)⟩
    | false =>
      simp only [Bool.not_false, if_true]
      exact wpAny_pure (show wpAny _ _ (pure false) Q E _ from wpAny_pure (q false))
  · obtain ⟨r1, r2⟩ := r
    obtain ⟨e, rfl, _⟩ := hz
    simp only at e
    subst e
    exact wpAny_pure (q true)
/-- the search among such tuples shows nothing of the table -/
theorem unseen {ks : List Key} {b : Addr} {Q : Bool → Shared → Prop} (T : Tk P w s.heap ks b) : ∀ (ys : List Value), (∀ y ∈ ys, ∃ k c, y = Value.ref c ∧ Tk P w s.heap k c) → Q false s → wpAny (model P w) A (searchCouldBeSeen (.ref b) ys) Q E s := by
  intro ys hys q
  unfold searchCouldBeSeen
  refine wpAny_bind (wpAny_forIn_list _ (fun l r z => r.1 = none ∧ z = s ∧ ∀ y ∈ l, ∃ k c, y = Value.ref c ∧ Tk P w s.heap k c) _ (fun y l r z hz => ?_) (fun r z hz => ?_) _ _ ⟨rfl, rfl, hys⟩)
  · obtain ⟨_, rfl, hy⟩ := hz
    obtain ⟨k, c, rfl, Tc⟩ := hy y List.mem_cons_self
    have keep : (none : Option Bool) = none ∧ z = z ∧ ∀ y ∈ l, ∃ k c, y = Value.ref c ∧ Tk P w z.heap k c := ⟨rfl, rfl, fun u hu => hy u (List.mem_cons_of_mem _ hu)⟩
    dsimp only
    cases hv : (b == c || (carriedByValue (.ref b) && carriedByValue (.ref c))) with
    | true => exact wp_if_pos rfl (wpAny_pure keep)
    | false =>
      refine wp_if_neg (by decide) (wpAny_bind (wpAny_eqIsQuiet_tuple T ?_))
      simp only [Bool.not_true, Bool.false_eq_true, if_false]
      refine wpAny_bind (wpAny_eqIsQuiet_tuple Tc ?_)
      simp only [Bool.not_true, Bool.false_eq_true, if_false]
      refine wpAny_bind (noClass T ?_)
      simp only [Bool.false_eq_true, if_false]
      refine wpAny_bind (noClass Tc ?_)
      simp only [Bool.false_eq_true, if_false]
      exact wpAny_pure keep
  · obtain ⟨r1, r2⟩ := r
    obtain ⟨e, rfl, _⟩ := hz
    simp only at e
    subst e
    exact wpAny_pure q

/-! ### the set's object -/
abbrev hs (P : Program) (w : World) (L : List KT) : List Int := L.map fun p => hk P w p.2
/-- at a stands a set of the tuples L; es its entries, t its table -/
structure TSet (P : Program) (w : World) (h : Heap) (a : Addr) (L : List KT) (es : Array (Int × Value)) (t : SetTable) : Prop where
  obj : ∃ o ep, h.get? a = some o ∧ o.ExactSet ∧ o.data = .set es ep t
  ents : es.toList = L.map fun p => (hk P w p.2, Value.ref p.1)
  tab : TabOk t (hs P w L)
  dist : (L.map (·.2)).Nodup
  tups : ∀ p ∈ L, Tk P w h p.2 p.1
  room : L.length * 5 < t.mask * 3
  few : L.length < 64
variable {a : Addr} {L : List KT} {es : Array (Int × Value)} {t : SetTable}
theorem ents_len (e : es.toList = L.map fun p => (hk P w p.2, Value.ref p.1)) : es.size = L.length := by
  rw [← Array.length_toList, e, List.length_map]
theorem ents_at (e : es.toList = L.map fun p => (hk P w p.2, Value.ref p.1)) {i : Nat} {p : KT} (h : L[i]? = some p) : es[i]? = some (hk P w p.2, Value.ref p.1) := by
  rw [← Array.getElem?_toList, e, List.getElem?_map, h]
  rfl
theorem tab_len (T : TabOk t (hs P w L)) : t.place.toList.length = L.length := by
  rw [Array.length_toList, T.sz, List.length_map]
theorem fits_of (e : es.size = L.length) (T : TabOk t (hs P w L)) (h : L.length ≤ t.mask) : t.fits es.size = true := by
  have z : t.place.size = L.length := by
    have q := T.sz
    rwa [List.length_map] at q
  unfold SetTable.fits SetTable.fill
  rw [T.dm, Bool.and_eq_true, beq_iff_eq, decide_eq_true_eq]
  exact ⟨z.trans e.symm, by rw [z]; exact h⟩
theorem TSet.fit (R : TSet P w s.heap a L es t) : t.fits es.size = true := fits_of (ents_len R.ents) R.tab (by have := R.room; omega)

/-- the c-th place asked for the hash h -/
abbrev pr (t : SetTable) (h : Int) (c : Nat) : SetTable.Probe := nth t.mask (runAt t.mask (SetTable.bits h % (t.mask + 1)) (SetTable.bits h)) c
theorem pr_add (t : SetTable) (h : Int) (c q : Nat) : nth t.mask (pr t h c) q = pr t h (c + q) := (nth_add t.mask c _ q).symm
theorem pr_way (t : SetTable) (h : Int) (c : Nat) : (pr t h c).j = way t.mask h c := rfl
theorem pr_dummy (t : SetTable) (h : Int) (c : Nat) : (pr t h c).dummy = none := by
  have go : ∀ (m n : Nat) (p : SetTable.Probe), p.dummy = none → (nth m p n).dummy = none := fun m n => by
    induction n with
    | zero => exact fun p e => e
    | succ n ih =>
      refine fun p e => ih (adv m p) ?_
      unfold adv
      split <;> exact e
  exact go _ _ _ rfl

/-- what the search for k finds, from the c-th place on: N the first free place -/
theorem find_from (R : TSet P w s.heap a L es t) {x : Addr} {k : List Key} (T : Tk P w s.heap k x) (hu : A.units < cLine) {N : Nat} (hN : N < 10 * SetTable.turns t.mask) (hfree : way t.mask (hk P w k) N ∉ t.place.toList)
    (hocc : ∀ c, c < N → way t.mask (hk P w k) c ∈ t.place.toList) {Q : SetFound → Shared → Prop} (yes : k ∈ L.map (·.2) → Q (.there none) s) (no : k ∉ L.map (·.2) → Q (.free (way t.mask (hk P w k) N) false) s) (f : Nat) :
    ∀ (c : Nat) (st : Option SetTable.Probe), st.getD (t.probeStart (hk P w k)) = pr t (hk P w k) c → c ≤ N → N - c < f →
      (∀ (i : Nat) (p : KT), L[i]? = some p → p.2 = k → ∃ c', c ≤ c' ∧ c' < N ∧ t.place.toList[i]? = some (way t.mask (hk P w k) c')) → wpAny (model P w) A (setSearchFrom a (.ref x) (hk P w k) true f st) Q E s := by
  obtain ⟨o, ep, ho, hex, hd⟩ := R.obj
  induction f with
  | zero => exact fun c st _ _ z _ => absurd z (Nat.not_lt_zero _)
  | succ f ih =>
    intro c st hst hc hf hthere
    have gw : ¬ t.gaveWay = true := by
      unfold SetTable.gaveWay
      rw [mask_odd R.tab.mok]
      decide
    rw [setSearchFrom_succ]
    refine wpAny_bind (wpAny_setState_of ho hd R.fit ?_)
    dsimp only
    refine wp_if_neg gw ?_
    try refine wpAny_bind (wpAny_pure ?_)
    have look : ∀ (i : Nat) (p : KT), L[i]? = some p → (es[i]?.map (·.1)).getD 0 = hk P w p.2 := fun i p hp => by rw [ents_at R.ents hp]; rfl
    have ways := go_spec t R.tab.ris R.tab.dm (fun (i : Nat) => (es[i]?.map (·.1)).getD 0) (hk P w k) (10 * SetTable.turns t.mask) (N - c) (pr t (hk P w k) c) (pr_dummy _ _ _) (by omega)
      (fun q hq => by rw [pr_add, pr_way]; exact hocc _ (by omega)) (by rw [pr_add, pr_way, Nat.add_sub_cancel' hc]; exact hfree)
    -- a place of k is not left behind
    have notyet : ∀ (q : Nat), (∀ (k' i' : Nat), k' < q → t.place.toList[i']? = some (nth t.mask (pr t (hk P w k) c) k').j → (es[i']?.map (·.1)).getD 0 ≠ hk P w k) → ∀ (i : Nat) (p : KT), L[i]? = some p → p.2 = k → ∃ c', c + q ≤ c' ∧ c' < N ∧ t.place.toList[i]? = some (way t.mask (hk P w k) c') := fun q hq i p hp ek => by
      obtain ⟨c', h1, h2, h3⟩ := hthere i p hp ek
      refine ⟨c', Nat.le_of_not_lt fun z => ?_, h2, h3⟩
      refine hq (c' - c) i (by omega) ?_ (by rw [look i p hp, ek])
      rw [pr_add, pr_way, Nat.add_sub_cancel' h1]
      exact h3
    rcases ways with ⟨q, i, hq, hi, _, hno, hgo⟩ | ⟨hno, hgo⟩
    · have hp1 : t.probe (fun (i : Nat) => (es[i]?.map (·.1)).getD 0) (hk P w k) (st.getD (t.probeStart (hk P w k))) = some (.candidate (way t.mask (hk P w k) (c + q)) i (pr t (hk P w k) (c + (q + 1)))) := by
        have z : t.probe (fun (i : Nat) => (es[i]?.map (·.1)).getD 0) (hk P w k) (pr t (hk P w k) c) = _ := hgo
        rw [hst, z, pr_add, pr_add]
      rw [hp1]
      dsimp only
      rw [pr_add, pr_way] at hi
      have hil : i < L.length := by
        have z := (List.getElem?_eq_some_iff.mp hi).1
        rwa [tab_len R.tab] at z
      obtain ⟨p, hp⟩ : ∃ p, L[i]? = some p := ⟨_, List.getElem?_eq_getElem hil⟩
      have pm := List.mem_of_getElem? hp
      have live : t.slot (way t.mask (hk P w k) (c + q)) = .live i := slot_live R.tab.ris hi
      have main : wpAny (model P w) A (searchRest a (.ref x) (hk P w k) true f es t (way t.mask (hk P w k) (c + q)) i (pr t (hk P w k) (c + (q + 1)))) Q E s := by
        unfold searchRest
        rw [ents_at R.ents hp]
        dsimp only
        refine wpAny_bind (wpAny_holding (wpAny_eqBool_tuple hu (R.tups p pm) T (wpAny_bind (wpAny_setState_of ho hd R.fit ?_))))
        dsimp only
        cases hb : decide (p.2 = k) with
        | true =>
          have ek := of_decide_eq_true hb
          refine wp_if_pos (by simp) (wpAny_pure (yes ?_))
          rw [← ek]
          exact List.mem_map_of_mem (f := (·.2)) pm
        | false =>
          have nk := of_decide_eq_false hb
          refine wp_if_neg (by simp) ?_
          try refine wpAny_bind (wpAny_pure ?_)
          rw [show t.sameMemory t.moves t.mask = some true from if_pos (beq_self_eq_true _)]
          dsimp only
          simp only [if_true, live, ents_at R.ents hp]
          refine wpAny_bind (wpAny_isSame_ref_self (wpAny_bind (wpAny_pure ?_)))
          simp only [if_true]
          refine wp_if_neg (by simp) (ih (c + (q + 1)) _ rfl (by omega) (by omega) fun j p' hp' ek => ?_)
          obtain ⟨c', h1, h2, h3⟩ := notyet q hno j p' hp' ek
          refine ⟨c', ?_, h2, h3⟩
          rcases Nat.lt_or_ge (c + q) c' with z | z
          · omega
          · exfalso
            have ec : c' = c + q := Nat.le_antisymm z h1
            rw [ec] at h3
            have l2 := slot_live R.tab.ris h3
            rw [live] at l2
            injection l2 with e2
            rw [← e2, hp] at hp'
            exact nk ((congrArg Prod.snd (Option.some.inj hp')).trans ek)
      by_cases hl : t.led = true
      · refine wp_if_neg (by simp [hl]) ?_
        try refine wpAny_bind (wpAny_pure ?_)
        exact main
      · refine wp_if_pos (by simp [hl]) (wpAny_bind (unseen T _ (fun y hy => ?_) ?_))
        · obtain ⟨e, he, ey⟩ := List.mem_map.mp hy
          have he2 : e ∈ es.toList := by
            have z : e ∈ es ∧ e.1 = hk P w k := by simpa using he
            simpa using z.1
          rw [R.ents] at he2
          obtain ⟨p2, hp2, e2⟩ := List.mem_map.mp he2
          exact ⟨p2.2, p2.1, by rw [← ey, ← e2], R.tups p2 hp2⟩
        · refine wp_if_neg (by decide) ?_
          try refine wpAny_bind (wpAny_pure ?_)
          exact main
    · have hp1 : t.probe (fun (i : Nat) => (es[i]?.map (·.1)).getD 0) (hk P w k) (st.getD (t.probeStart (hk P w k))) = some (.empty (way t.mask (hk P w k) N) none) := by
        have z : t.probe (fun (i : Nat) => (es[i]?.map (·.1)).getD 0) (hk P w k) (pr t (hk P w k) c) = _ := hgo
        rw [hst, z, pr_add, pr_way, Nat.add_sub_cancel' hc]
      rw [hp1]
      dsimp only
      refine wpAny_pure (no fun hm => ?_)
      obtain ⟨p, pm, ek⟩ := List.mem_map.mp hm
      obtain ⟨i, hil, ei⟩ := List.getElem_of_mem pm
      have hp : L[i]? = some p := by rw [List.getElem?_eq_getElem hil, ei]
      obtain ⟨c', h1, h2, h3⟩ := notyet (N - c) hno i p hp ek
      omega
/-- the search that adding asks for -/
theorem find_all (R : TSet P w s.heap a L es t) {x : Addr} {k : List Key} (T : Tk P w s.heap k x) (hu : A.units < cLine) {Q : SetFound → Shared → Prop} (yes : k ∈ L.map (·.2) → Q (.there none) s)
    (no : ∀ N, k ∉ L.map (·.2) → way t.mask (hk P w k) N ∉ t.place.toList → (∀ c, c < N → way t.mask (hk P w k) c ∈ t.place.toList) → Q (.free (way t.mask (hk P w k) N) false) s) :
    wpAny (model P w) A (setSearch a (.ref x) (hk P w k) true) Q E s := by
  have hr := R.room
  obtain ⟨N, hN, hfree, hocc⟩ := R.tab.first (by rw [List.length_map]; omega) (hk P w k)
  have small : 10 * SetTable.turns t.mask ≤ 1420 := by
    unfold SetTable.turns
    rcases R.tab.mok with e | e | e <;> omega
  unfold setSearch
  refine find_from R T hu hN hfree hocc yes (fun n => no N n hfree hocc) 100000 0 none rfl (Nat.zero_le _) (by omega) fun i p hp ek => ?_
  have hil : i < t.place.toList.length := by
    rw [tab_len R.tab]
    exact (List.getElem?_eq_some_iff.mp hp).1
  have hj := List.getElem?_eq_getElem hil
  obtain ⟨c, hc, e⟩ := R.tab.before hfree (show (hs P w L)[i]? = some (hk P w k) by rw [List.getElem?_map, hp, ← ek]; rfl) hj
  exact ⟨c, Nat.zero_le _, hc, by rw [hj, e]⟩

/-! ### the table laid anew -/
theorem take_all (L : List KT) : ∀ n, n ≤ L.length → (List.range n).filterMap (fun i => L[i]?) = L.take n
  | 0, _ => rfl
  | n + 1, h => by
    have hn : L[n]? = some L[n] := List.getElem?_eq_getElem h
    rw [List.range_succ, List.filterMap_append, take_all L n (Nat.le_of_lt h), List.take_add_one, hn, List.filterMap_cons_some hn]
    rfl
theorem reorder (L : List KT) (es : Array (Int × Value)) (order : Array Nat) (e : es.toList = L.map fun p => (hk P w p.2, Value.ref p.1)) (hp : order.toList.Perm (List.range L.length)) :
    ∃ L2 : List KT, L2.Perm L ∧ (order.filterMap (es[·]?)).toList = (L2.map fun p => (hk P w p.2, Value.ref p.1)) ∧ hs P w L2 = order.toList.map fun i => (es.map (·.1)).getD i 0 := by
  have each : ∀ l : List Nat, (∀ i ∈ l, i < L.length) → l.filterMap (fun i => es[i]?) = ((l.filterMap fun i => L[i]?).map fun p => (hk P w p.2, Value.ref p.1)) ∧ hs P w (l.filterMap fun i => L[i]?) = l.map fun i => (es.map (·.1)).getD i 0 := by
    intro l
    induction l with
    | nil => exact fun _ => ⟨rfl, rfl⟩
    | cons i l ih =>
      intro hl
      have hi := hl i List.mem_cons_self
      obtain ⟨h1, h2⟩ := ih fun j hj => hl j (List.mem_cons_of_mem _ hj)
      have a1 : L[i]? = some L[i] := List.getElem?_eq_getElem hi
      have a2 := ents_at e a1
      have a3 : (es.map (·.1)).getD i 0 = hk P w (L[i]).2 := by
        have z : (es.map (·.1))[i]? = some (hk P w (L[i]).2) := by
          rw [Array.getElem?_map, a2]
          rfl
        simp [Array.getD_eq_getD_getElem?, z]
      constructor
      · rw [List.filterMap_cons_some a2, List.filterMap_cons_some a1, h1]
        rfl
      · rw [List.filterMap_cons_some a1, List.map_cons, a3, ← h2]
        rfl
  obtain ⟨h1, h2⟩ := each order.toList fun i hi => List.mem_range.mp (hp.mem_iff.mp hi)
  refine ⟨order.toList.filterMap fun i => L[i]?, ?_, ?_, h2⟩
  · have z := hp.filterMap (fun i => L[i]?)
    rw [take_all L L.length (Nat.le_refl _), List.take_length] at z
    exact z
  · rw [← h1]
    first
      | rw [Array.toList_filterMap]
      | simp
/-- an object other than the set's -/
theorem tk_same {h h' : Heap} {k : List Key} {b : Addr} {o : Obj} {ep : Nat} (T : Tk P w h k b) (ho : h.get? a = some o) (hd : o.data = .set es ep t) (sb : Heap.SameBut a h h') : Tk P w h' k b := by
  obtain ⟨o2, its, n, h2, hc, hdt, hi⟩ := T
  refine ⟨o2, its, n, (sb.2 b fun z => ?_).trans h2, hc, hdt, hi⟩
  rw [z, ho] at h2
  rw [Option.some.inj h2, hdt] at hd
  cases hd
theorem relay {o : Obj} {ep : Nat} (ho : s.heap.get? a = some o) (hex : o.ExactSet) (hd : o.data = .set es ep t) (he : es.toList = L.map fun p => (hk P w p.2, Value.ref p.1)) (hfit : t.fits es.size = true) (nd : (L.map (·.2)).Nodup) (tp : ∀ p ∈ L, Tk P w s.heap p.2 p.1) (few : L.length < 64)
    {want M : Nat} (hw : SetTable.sizeAbove want - 1 = M) (hM : MaskOk M) (hw2 : SetTable.sizeAbove want ≤ 128) (hn : L.length * 5 < M * 3) {Q : Unit → Shared → Prop}
    (q : ∀ h' L' es' t', Heap.SameBut a s.heap h' → TSet P w h' a L' es' t' → L'.Perm L → Q () { s with heap := h' }) : wpAny (model P w) A (setRelay a want) Q E s := by
  have hz := ents_len he
  obtain ⟨t', order, e1, pm, T, em, _, _, _⟩ := relaid_ok t (hs := es.map (·.1)) (wanted := want) hw hM (by rw [Array.size_map, hz]; omega)
  rw [Array.size_map, hz] at pm
  obtain ⟨L2, p2, r2, r3⟩ := reorder L es order he pm
  rw [← r3] at T
  have hz2 : (order.filterMap (es[·]?)).size = es.size := by rw [hz, ents_len r2, p2.length_eq]
  rw [setRelay_eq]
  refine wpAny_bind (wpAny_setState_of ho hd hfit ?_)
  dsimp only
  refine wp_if_neg (by rw [sizeLine_eq]; omega) ?_
  try refine wpAny_bind (wpAny_pure ?_)
  rw [e1]
  dsimp only
  refine wpAny_bind (wp_if_neg (by rw [hz2]; simp) ?_)
  try refine wpAny_bind (wpAny_pure ?_)
  refine wpAny_pure ?_
  dsimp only
  have sb : Heap.SameBut a s.heap (s.heap.update a (Obj.putSet (order.filterMap (es[·]?)) t')) := Heap.SameBut.update ..
  refine wpAny_storeSet_of ho hd (q _ L2 (order.filterMap (es[·]?)) t' sb ⟨⟨_, _, store_at ho hd, ⟨hex.1, hex.2.1, hex.2.2⟩, rfl⟩, r2, T, (p2.map (·.2)).nodup_iff.mpr nd, fun p hp => tk_same (tp p (p2.mem_iff.mp hp)) ho hd sb, ?_, ?_⟩ p2) (by rw [hz2, hz, sizeLine_eq]; omega)
  · rw [p2.length_eq, em]
    exact hn
  · rw [p2.length_eq]
    exact few

/-! ### adding -/
theorem mid_perm {α : Type} (L : List α) (i : Nat) (x : α) : (L.take i ++ x :: L.drop i).Perm (x :: L) := by
  have z : (L.take i ++ x :: L.drop i).Perm (x :: (L.take i ++ L.drop i)) := List.perm_middle
  rwa [List.take_append_drop] at z
theorem add (R : TSet P w s.heap a L es t) {x : Addr} {k : List Key} (T : Tk P w s.heap k x) (hu : A.units < cLine) (hfew : L.length + 1 < 64) {Q : Bool → Shared → Prop}
    (q : ∀ b h' L' es' t', Heap.SameBut a s.heap h' → TSet P w h' a L' es' t' → (k ∈ L.map (·.2) → L' = L) → (k ∉ L.map (·.2) → L'.Perm ((x, k) :: L)) → Q b { s with heap := h' }) :
    wpAny (model P w) A (setAddHashed a (.ref x) (hk P w k)) Q E s := by
  obtain ⟨o, ep, ho, hex, hd⟩ := R.obj
  have hz := ents_len R.ents
  have hr := R.room
  unfold setAddHashed
  refine wpAny_holding ?_
  rw [show (100000 : Nat) = 99999 + 1 from rfl, setAddHashedIn_succ]
  refine wpAny_bind (wpAny_setState_of ho hd R.fit ?_)
  dsimp only
  refine wp_if_neg (by simp [byScan, Value.scannable]) ?_
  try refine wpAny_bind (wpAny_pure ?_)
  refine wpAny_bind (find_all R T hu (fun hm => ?_) fun N hm hfree hocc => ?_)
  · dsimp only
    exact wpAny_pure (q false s.heap L es t (Heap.SameBut.refl a s.heap) R (fun _ => rfl) fun z => absurd hm z)
  · dsimp only
    refine wpAny_bind (wpAny_setState_of ho hd R.fit ?_)
    dsimp only
    obtain ⟨q1, q2, q3, q4, _, _, _, _, q9⟩ := R.tab.put hfree hocc
    obtain ⟨t1, i⟩ : SetTable × Nat := ⟨(t.put (way t.mask (hk P w k) N)).1, (t.put (way t.mask (hk P w k) N)).2⟩
    generalize t.put (way t.mask (hk P w k) N) = pt at q1 q3 q4 q9 ⊢
    obtain ⟨u, j⟩ := pt
    dsimp only at q1 q3 q4 q9 ⊢
    subst q1
    generalize SetTable.below t.place (way t.mask (hk P w k) N) = j at q2 q3 ⊢
    have pm := mid_perm L j (x, k)
    have ins : (SetTable.insertAt es j (hk P w k, Value.ref x)).toList = ((L.take j ++ (x, k) :: L.drop j).map fun p => (hk P w p.2, Value.ref p.1)) := by
      rw [SetTable.toList_insertAt, R.ents, List.map_append, List.map_cons, List.map_take, List.map_drop]
    have hss : hs P w (L.take j ++ (x, k) :: L.drop j) = (hs P w L).take j ++ hk P w k :: (hs P w L).drop j := by
      show List.map _ _ = _
      rw [List.map_append, List.map_cons, List.map_take, List.map_drop]
    have T1 : TabOk u (hs P w (L.take j ++ (x, k) :: L.drop j)) := by rw [hss]; exact q3
    have nd1 : ((L.take j ++ (x, k) :: L.drop j).map (·.2)).Nodup := (pm.map (·.2)).nodup_iff.mpr (List.nodup_cons.mpr ⟨hm, R.dist⟩)
    have hlen : (L.take j ++ (x, k) :: L.drop j).length = L.length + 1 := pm.length_eq
    generalize L.take j ++ (x, k) :: L.drop j = L1 at pm ins T1 nd1 hlen
    generalize SetTable.insertAt es j (hk P w k, Value.ref x) = es1 at ins ⊢
    have hz1 : es1.size = L.length + 1 := (ents_len ins).trans hlen
    have fill1 : u.fill = L.length + 1 := by rw [q9, List.length_map]
    -- whatever the table is told of the key's hash
    have rest : ∀ (v : SetTable), v.place = u.place → v.dummies = u.dummies → v.mask = u.mask → wpAny (model P w) A (do
        storeSet a es1 v
        if (!false && v.tooFull) = true then setRelay a (SetTable.grown (es.size + 1))
        return true) Q E s := by
      intro v v1 v2 v3
      have Tv : TabOk v (hs P w L1) := by
        refine ⟨by rw [v1]; exact T1.ris, by rw [v2]; exact T1.dm, by rw [v1]; exact T1.sz, by rw [v3]; exact T1.mok, fun y hy => ?_, fun i' h' j' a1 a2 => ?_⟩
        · rw [v1] at hy
          rw [v3]
          exact T1.bd y hy
        · rw [v1] at a2 ⊢
          rw [v3]
          exact T1.reach i' h' j' a1 a2
      have fillv : v.fill = L.length + 1 := by
        unfold SetTable.fill
        rw [v1, v2]
        exact fill1
      have sb : Heap.SameBut a s.heap (s.heap.update a (Obj.putSet es1 v)) := Heap.SameBut.update ..
      have ho1 := store_at (es' := es1) (t' := v) ho hd
      refine wpAny_bind (wpAny_storeSet_of ho hd ?_ (by rw [hz1, sizeLine_eq]; omega))
      generalize s.heap.update a (Obj.putSet es1 v) = h1 at sb ho1 ⊢
      have tp1 : ∀ p ∈ L1, Tk P w h1 p.2 p.1 := fun p hp => by
        rcases List.mem_cons.mp (pm.mem_iff.mp hp) with e | hp
        · rw [e]
          exact tk_same T ho hd sb
        · exact tk_same (R.tups p hp) ho hd sb
      have few1 : L1.length < 64 := by rw [hlen]; exact hfew
      cases hf : v.tooFull with
      | false =>
        simp only [Bool.not_false, Bool.and_false, Bool.false_eq_true, if_false]
        have roomy : L1.length * 5 < v.mask * 3 := by
          have z := hf
          unfold SetTable.tooFull at z
          rw [decide_eq_false_iff_not, fillv] at z
          rw [hlen]
          omega
        first
          | exact wpAny_pure (q true h1 L1 es1 v sb ⟨⟨_, _, ho1, ⟨hex.1, hex.2.1, hex.2.2⟩, rfl⟩, ins, Tv, nd1, tp1, roomy, few1⟩ (fun z => absurd z hm) fun _ => pm)
          | exact wpAny_bind (wpAny_pure (wpAny_pure (q true h1 L1 es1 v sb ⟨⟨_, _, ho1, ⟨hex.1, hex.2.1, hex.2.2⟩, rfl⟩, ins, Tv, nd1, tp1, roomy, few1⟩ (fun z => absurd z hm) fun _ => pm)))
      | true =>
        simp only [Bool.not_false, Bool.and_true, if_true]
        have full : (L.length + 1) * 5 ≥ v.mask * 3 := by
          have z := hf
          unfold SetTable.tooFull at z
          rw [decide_eq_true_eq, fillv] at z
          exact z
        have hv : v.mask = t.mask := v3.trans q4
        rw [hz]
        have two : (t.mask = 7 ∧ L.length = 4) ∨ (t.mask = 31 ∧ L.length = 18) := by
          rw [hv] at full
          rcases R.tab.mok with e | e | e
          · left; rw [e] at full hr; exact ⟨e, by omega⟩
          · right; rw [e] at full hr; exact ⟨e, by omega⟩
          · exfalso; rw [e] at full; omega
        have go : ∀ M, SetTable.sizeAbove (SetTable.grown (L.length + 1)) - 1 = M → MaskOk M → SetTable.sizeAbove (SetTable.grown (L.length + 1)) ≤ 128 → (L.length + 1) * 5 < M * 3 →
            wpAny (model P w) A (setRelay a (SetTable.grown (L.length + 1))) (fun _ s' => wpAny (model P w) A (pure true) Q E s') E { s with heap := h1 } := fun M a1 a2 a3 a4 =>
          relay (s := { s with heap := h1 }) ho1 ⟨hex.1, hex.2.1, hex.2.2⟩ rfl ins (fits_of (ents_len ins) Tv (by rw [hlen, hv]; rcases two with ⟨e, e2⟩ | ⟨e, e2⟩ <;> omega)) nd1 tp1 few1 a1 a2 a3 (by rw [hlen]; exact a4)
            fun h2 L2 es2 t2 sb2 R2 pm2 => wpAny_pure (q true h2 L2 es2 t2 (sb.trans sb2) R2 (fun z => absurd z hm) fun _ => pm2.trans pm)
        rcases two with ⟨_, e2⟩ | ⟨_, e2⟩
        · exact wpAny_bind (go 31 (by rw [e2, size_20]) (.inr (.inl rfl)) (by rw [e2, size_20]; decide) (by omega))
        · exact wpAny_bind (go 127 (by rw [e2, size_76]) (.inr (.inr rfl)) (by rw [e2, size_76]; decide) (by omega))
    have both : ∀ c : Bool, (if c = true then u else { u with plain := false }).place = u.place ∧ (if c = true then u else { u with plain := false }).dummies = u.dummies ∧ (if c = true then u else { u with plain := false }).mask = u.mask := fun c => by
      cases c <;> exact ⟨rfl, rfl, rfl⟩
    split
    · refine wpAny_bind (byValue T fun c => ?_)
      exact rest _ (both c).1 (both c).2.1 (both c).2.2
    · refine wpAny_bind (wpAny_pure ?_)
      exact rest _ (both true).1 (both true).2.1 (both true).2.2

/-! ### all the items, one after another -/
/-- what the set holds of the first i of ks -/
structure Took (ks : List KT) (i : Nat) (L : List KT) : Prop where
  same : ∀ k, k ∈ L.map (·.2) ↔ k ∈ (ks.take i).map (·.2)
  sub : ∀ p ∈ L, p ∈ ks.take i
  le : L.length ≤ i
  full : L.length = i ↔ ((ks.take i).map (·.2)).Nodup
theorem Took.start (ks : List KT) : Took ks 0 [] := ⟨fun _ => Iff.rfl, fun p h => (nomatch h), Nat.le_refl _, ⟨fun _ => List.nodup_nil, fun _ => rfl⟩⟩
theorem take_more {ks : List KT} {i : Nat} {p : KT} (h : ks[i]? = some p) : (ks.take (i + 1)).map (·.2) = (ks.take i).map (·.2) ++ [p.2] := by
  rw [List.take_add_one, h, List.map_append]
  rfl
theorem nodup_snoc {α : Type} {l : List α} {x : α} : (l ++ [x]).Nodup ↔ l.Nodup ∧ x ∉ l := by
  rw [List.nodup_append]
  constructor
  · rintro ⟨h1, _, h3⟩
    exact ⟨h1, fun hx => h3 x hx x (List.mem_singleton.mpr rfl) rfl⟩
  · rintro ⟨h1, h2⟩
    refine ⟨h1, List.pairwise_singleton _ _, fun y hy z hz e => ?_⟩
    rw [List.mem_singleton.mp hz] at e
    exact h2 (e ▸ hy)
theorem Took.old {ks L : List KT} {i : Nat} {p : KT} (g : Took ks i L) (h : ks[i]? = some p) (hm : p.2 ∈ L.map (·.2)) : Took ks (i + 1) L := by
  have e := take_more h
  refine ⟨fun k => ?_, fun q hq => ?_, Nat.le_succ_of_le g.le, ?_⟩
  · rw [e, List.mem_append, List.mem_singleton, g.same k]
    exact ⟨.inl, fun z => z.elim id fun z => by rw [z]; exact (g.same _).mp hm⟩
  · rw [List.take_add_one]
    exact List.mem_append_left _ (g.sub q hq)
  · rw [e, nodup_snoc]
    exact ⟨fun z => absurd z (Nat.ne_of_lt (Nat.lt_succ_of_le g.le)), fun z => absurd ((g.same _).mp hm) z.2⟩
theorem Took.new {ks L L' : List KT} {i : Nat} {p : KT} (g : Took ks i L) (h : ks[i]? = some p) (hm : p.2 ∉ L.map (·.2)) (pm : L'.Perm (p :: L)) : Took ks (i + 1) L' := by
  have e := take_more h
  refine ⟨fun k => ?_, fun q hq => ?_, by rw [pm.length_eq]; exact Nat.succ_le_succ g.le, ?_⟩
  · rw [e, List.mem_append, List.mem_singleton, (pm.map (·.2)).mem_iff, List.map_cons, List.mem_cons, g.same k]
    exact or_comm
  · rw [List.take_add_one, h]
    rcases List.mem_cons.mp (pm.mem_iff.mp hq) with z | z
    · exact List.mem_append_right _ (by rw [z]; exact List.mem_singleton.mpr rfl)
    · exact List.mem_append_left _ (g.sub q z)
  · rw [e, nodup_snoc, pm.length_eq, List.length_cons, ← g.full]
    have z : p.2 ∉ (ks.take i).map (·.2) := fun q => hm ((g.same _).mpr q)
    constructor
    · exact fun q => ⟨by omega, z⟩
    · exact fun q => by rw [q.1]

theorem tk_keep {h h' : Heap} {k : List Key} {b : Addr} (T : Tk P w h k b) (hk' : ∀ c o, h.get? c = some o → h'.get? c = some o) : Tk P w h' k b := let ⟨o, its, n, h2, r⟩ := T; ⟨o, its, n, hk' b o h2, r⟩
theorem TSet.keep {h h' : Heap} (R : TSet P w h a L es t) (ha : ∀ o, h.get? a = some o → h'.get? a = some o) (ht : ∀ p ∈ L, Tk P w h' p.2 p.1) : TSet P w h' a L es t :=
  let ⟨o, ep, h2, r⟩ := R.obj
  ⟨⟨o, ep, ha o h2, r⟩, R.ents, R.tab, R.dist, ht, R.room, R.few⟩
theorem tset_new {h : Heap} {led : Bool} (ho : h.get? a = some { cls := .type "set", dict := none, data := .set #[] 0 (.fresh 0 0 led) }) : TSet P w h a [] #[] (.fresh 0 0 led) where
  obj := ⟨_, _, ho, ⟨rfl, rfl, rfl⟩, rfl⟩
  ents := rfl
  tab := ⟨List.Pairwise.nil, rfl, rfl, .inl rfl, fun _ z => (nomatch z), fun i h j z => (by simp at z)⟩
  dist := List.nodup_nil
  tups := fun _ z => (nomatch z)
  room := (by decide : 0 * 5 < 7 * 3)
  few := (by decide : 0 < 64)

/-- the loop that puts the items in -/
theorem fill {I S : Addr} {fp wr : List Addr} {G : Array GenState → Array GenState → Prop} {n : Nat} {Pv : Nat → Value → Prop} {Sv : Nat → Shared → Prop} {R : Result → Shared → Prop} (W : WalksS P w A.in1 I fp wr G n Pv Sv) (hS : S ∉ fp) (ks : List KT) (hn : n = ks.length) (hfew : ks.length < 64)
    (val : ∀ i v, Pv i v → ∃ p, ks[i]? = some p ∧ v = .ref p.1) (h0 : Heap) (hks : ∀ p ∈ ks, Tk P w h0 p.2 p.1) (nS : h0.get? S = none) (nw : ∀ b ∈ wr, h0.get? b = none) (hu : A.in1.units < cLine) (left : Nat) :
    ∀ (i : Nat) (z : Shared), n - i = left → i ≤ n → Sv i z → (∀ b o, h0.get? b = some o → z.heap.get? b = some o) → (∃ L es t, TSet P w z.heap S L es t ∧ Took ks i L) →
      (∀ z' L es t, Moved (S :: wr) G z z' → TSet P w z'.heap S L es t → Took ks n L → (∀ b o, h0.get? b = some o → z'.heap.get? b = some o) → R (.ok (.ret .none)) z') →
      codeAny (model P w) A (.builtin "set.update.loop" ⟨[.ref S, .ref I], []⟩) R z := by
  have nSw : S ∉ wr := fun z => hS (W.sub _ z)
  have wsub : ∀ b ∈ wr, b ∈ S :: wr := fun b hb => List.mem_cons_of_mem _ hb
  have kept : ∀ {z z' : Shared}, Moved wr G z z' → (∀ b o, h0.get? b = some o → z.heap.get? b = some o) → ∀ b o, h0.get? b = some o → z'.heap.get? b = some o := fun m k b o e => m.heap b o (fun hb => by rw [nw b hb] at e; cases e) (k b o e)
  have still : ∀ {z z' : Shared} {i : Nat} {L : List KT} {es t}, Moved wr G z z' → (∀ b o, h0.get? b = some o → z'.heap.get? b = some o) → Took ks i L → TSet P w z.heap S L es t → TSet P w z'.heap S L es t := fun m k g R =>
    R.keep (fun o e => m.heap S o nSw e) fun p hp => tk_keep (hks p (List.mem_of_mem_take (g.sub p hp))) k
  induction left with
  | zero =>
    intro i z hl hi hst hkeep ⟨L, es, t, hset, g⟩ fin
    obtain rfl : i = n := by omega
    refine codeAny_builtin PyProof.Rows.F.entry_set_update_loop ?_
    rw [Around.under_plainId PyProof.Rows.F.plain_set_update_loop _]
    show wpAny _ A.in1 (pyNext (.ref I) >>= _) _ _ z
    refine wpAny_bind (W.done z _ _ hst fun z' m => ?_)
    have k' := kept m hkeep
    exact wpAny_pure (fin z' L es t (m.mono wsub) (still m k' g hset) g k')
  | succ left ih =>
    intro i z hl hi hst hkeep ⟨L, es, t, hset, g⟩ fin
    have hin : i < n := by omega
    refine codeAny_builtin PyProof.Rows.F.entry_set_update_loop ?_
    rw [Around.under_plainId PyProof.Rows.F.plain_set_update_loop _]
    show wpAny _ A.in1 (pyNext (.ref I) >>= _) _ _ z
    refine wpAny_bind (W.item i z _ _ hin hst fun v z' hv hst' m => ?_)
    obtain ⟨p, hp, rfl⟩ := val i v hv
    have k' := kept m hkeep
    have T := tk_keep (hks p (List.mem_of_getElem? hp)) k'
    have R1 : TSet P w z'.heap S L es t := still m k' g hset
    show wpAny _ A.in1 (holding [Value.ref p.1] (setAdd S (.ref p.1)) >>= _) _ _ z'
    refine wpAny_bind (wpAny_holding ?_)
    unfold setAdd
    refine wpAny_holding (wpAny_bind (wpAny_pyHash_tuple hu T (add (s := { z' with toks := z'.toks + (p.2.length + 1) }) R1 T hu (by have := g.le; omega) fun b h' L' es' t' sb R' c1 c2 => ?_)))
    have g' : Took ks (i + 1) L' := by
      by_cases c : p.2 ∈ L.map (·.2)
      · rw [c1 c]
        exact g.old hp c
      · exact g.new hp c (c2 c)
    have k2 : ∀ b o, h0.get? b = some o → h'.get? b = some o := fun b o e => (sb.2 b fun q => by rw [q, nS] at e; cases e).trans (k' b o e)
    refine wpAny_pure ⟨plainId_quiet PyProof.Rows.F.plain_set_update_loop _, ih (i + 1) _ (by omega) hin (W.frame _ z' _ _ hst' (Nat.le_add_right _ _) fun b hb o e => ?_) k2 ⟨L', es', t', R', g'⟩ fun z2 L2 es2 t2 m2 R2 g2 kk2 => ?_⟩
    · rw [sb.2 b fun q => hS (q ▸ hb)]
      exact e
    · refine fin z2 L2 es2 t2 (Moved.trans W.gtrans ((m.mono wsub).then_heap (Nat.le_add_right _ _) fun b o hb e => ?_) m2) R2 g2 kk2
      rw [sb.2 b fun q => hb (q ▸ List.mem_cons_self)]
      exact e
end
end AsSet

set_option maxHeartbeats 4000000
set_option autoImplicit true
namespace AsSet
open PySem PySem.Spec PyProof.Rows L2
section
variable {P : Program} {w : World} {A : Around} {E : Value → Shared → Prop} {s : Shared}
abbrev bareSet (led : Bool) : Obj := { cls := .type "set", dict := none, data := .set #[] 0 (.fresh 0 0 led) }
/-- set(t), t a tuple of such tuples -/
theorem set_of {l : Addr} {items : Array Value} (ks : List KT) {Q : Value → Shared → Prop} (hh : A.handled = none) (hl : s.heap.IsTuple l items) (hit : items.toList = ks.map fun p => Value.ref p.1) (hks : ∀ p ∈ ks, Tk P w s.heap p.2 p.1) (hfew : ks.length < 64) (hu : A.units + 3 < cLine)
    (q : ∀ h' tk L es t, TSet P w h' s.heap.objs.size L es t → Took ks ks.length L → (∀ b o, s.heap.get? b = some o → h'.get? b = some o) → Q (.ref s.heap.objs.size) { s with heap := h', toks := tk }) :
    wpAny (model P w) A (call (.type "set") [.ref l]) Q E s := by
  have hz : items.size = ks.length := by rw [← Array.length_toList, hit, List.length_map]
  have cs := PySem.F.called_set
  obtain ⟨c, tl, hmro⟩ := cs.mro
  have hmade := cs.made
  have hsub := cs.sub
  have n1 := cs.notType
  have n2 := cs.canCreate
  have ct := PySem.F.typeCall_set_1 (.ref l)
  refine wpAny_call (codeAny_of_tree (show wpAny _ _ (callAny (.type "set") _) _ _ _ from wpAny_pure ⟨Code.quiet_builtin _ (by decide +kernel), codeAny_builtin PySem.F.entry_type_call ?_⟩))
  rw [Around.under_plain (weight_type_call_type "set" [.ref l] []) rfl]
  repeat (any_goals (first | assumption | wp_step))
  refine codeAny_mono (code_set_new_1 (.ref l) (E := E) (Q₁ := fun v z => ∃ led : Bool, v = .ref s.heap.objs.size ∧ z = { s with heap := s.heap.push (bareSet led) }) fun led => ⟨led, rfl, rfl⟩) fun r z hr => ?_
  match r, hr with
  | .error _, hr => exact hr
  | .ok .next, hr => exact hr.elim
  | .ok .brk, hr => exact hr.elim
  | .ok .cont, hr => exact hr.elim
  | .ok (.ret v), hr =>
    obtain ⟨led, rfl, rfl⟩ := hr
    have at0 : (s.heap.push (bareSet led)).get? s.heap.objs.size = some (bareSet led) := Heap.get?_push_size _ rfl
    have ty : Shared.TypeIs { s with heap := s.heap.push (bareSet led) } (.ref s.heap.objs.size) "set" := ⟨_, at0, rfl⟩
    have li := cs.init.lookup
    have bi := cs.init.bind (.ref s.heap.objs.size)
    repeat (any_goals (first | assumption | wp_step))
    refine codeAny_mono (codeAny_call_builtin (R := wants (fun r z => r = .none ∧ ∃ h' tk L es t, z = { s with heap := h', toks := tk } ∧ TSet P w h' s.heap.objs.size L es t ∧ Took ks ks.length L ∧ ∀ b o, s.heap.get? b = some o → h'.get? b = some o) E)
      cs.init.plain PySem.F.entry_set_init (check_set_init_1 ty ?_)) fun r2 z2 hr2 => ?_
    · obtain ⟨⟨ocls, odict, odata, oslots⟩, hol, hc, nl, hd⟩ := hl
      simp only at hc hd
      subst hc
      subst hd
      have hol2 : (s.heap.push (bareSet led)).get? l = some { cls := .type "tuple", dict := odict, data := .seq items nl, slots := oslots } := Heap.get?_push_of_some _ hol
      have ts := PySem.F.sub_tuple_set
      have tf := PySem.F.sub_tuple_frozenset
      have td : (Value.type "tuple" == Value.type "dict") = false := by decide
      have hl2 : (s.heap.push (bareSet led)).IsTuple l items := ⟨_, hol2, rfl, nl, rfl⟩
      unfold Builtin.«set.__init__» noKeywords Builtin.Frozenset.updateFrom
      generalize hPI : pyIter = PI
      wp_walk
      subst hPI
      have lt : l < s.heap.objs.size := Heap.lt_size hol
      have zz : (s.heap.push (bareSet led)).objs.size = s.heap.objs.size + 1 := Heap.size_push ..
      have gone : ∀ b, s.heap.objs.size ≤ b → s.heap.get? b = none := fun b hb => Heap.get?_none_of_le hb
      refine wpAny_pyIter_tuple hl2 (wpAny_bind (wpAny_runValue ?_))
      have h3 : A.in1.in1.in1.handled = none := hh
      have ne1 : l ≠ (s.heap.push (bareSet led)).objs.size := by rw [zz]; exact Nat.ne_of_lt (Nat.lt_succ_of_lt lt)
      have ne2 : s.heap.objs.size ∉ [(s.heap.push (bareSet led)).objs.size, l] := by
        rw [zz]
        intro e
        rcases List.mem_cons.mp e with e | e
        · exact Nat.ne_of_lt (Nat.lt_succ_self _) e
        · exact Nat.ne_of_gt lt (List.mem_singleton.mp e)
      refine fill (S := s.heap.objs.size) ((Walks.tuple h3 _ l ne1 items).toS) ne2 ks hz hfew (fun i v hv => ?_) s.heap hks (gone _ (Nat.le_refl _)) (fun b hb => gone b (by rw [List.mem_singleton.mp hb, zz]; exact Nat.le_succ _)) hu items.size 0 _ (Nat.sub_zero _) (Nat.zero_le _)
        ⟨⟨_, Heap.get?_push_size _ rfl, rfl, rfl⟩, hl2.push _⟩ (fun b o e => Heap.get?_push_of_some _ (Heap.get?_push_of_some _ e)) ⟨[], #[], _, tset_new (Heap.get?_push_of_some _ at0), Took.start ks⟩ fun z' L es t m R g kk => ?_
      · have z : items.toList[i]? = some v := by rw [Array.getElem?_toList]; exact hv
        rw [hit, List.getElem?_map] at z
        cases hq : ks[i]? with
        | none => rw [hq] at z; cases z
        | some p =>
          rw [hq] at z
          exact ⟨p, rfl, (Option.some.inj z).symm⟩
      · obtain ⟨zh, zg, zd, zt, zo⟩ := z'
        obtain rfl : zg = s.gens := m.gens
        obtain rfl : zd = s.drawn := m.drawn
        obtain rfl : zo = s.os := m.os
        rw [hz] at g
        exact wpAny_pure (show wpAny _ _ (ret Value.none) _ _ _ from wpAny_pure ⟨rfl, zh, zt, L, es, t, rfl, R, g, kk⟩)
    · match r2, hr2 with
      | .error _, hr => exact hr
      | .ok .next, hr => exact hr.elim
      | .ok .brk, hr => exact hr.elim
      | .ok .cont, hr => exact hr.elim
      | .ok (.ret v), hr =>
        obtain ⟨rfl, h', tk, L, es, t, rfl, R, g, kk⟩ := hr
        repeat (any_goals (first | assumption | wp_step))
        exact q _ _ _ _ _ R g kk
end

theorem items_of : ∀ {ks : List Key} {us : List Value} {P : Program} {w : World}, Vals (ks.map kV) us → ItemsAre (mixKind P w) ks us
  | [], _, _, _, .nil => .nil
  | .inl i :: ks, _, P, w, .cons r t => by
    obtain ⟨k, rfl⟩ := r
    exact .cons (mixKind_int P w i k) (items_of t)
  | .inr x :: ks, _, P, w, .cons r t => by
    obtain ⟨k, rfl⟩ := r
    exact .cons (mixKind_str P w x k) (items_of t)
theorem tk_of {X : Cx} {pins : List (Addr × Obj)} {σ : L2.St} {H : Hp} {s : Shared} {b : Addr} {ks : List Key} (I : Inv X pins σ H s) (h : SqT X.K H b (ks.map kV)) : Tk X.prog X.w s.heap ks b := by
  obtain ⟨its, rv, ⟨o, ho, hc, n, hd⟩, _⟩ := I.tuple h
  exact ⟨o, its.toArray, n, ho, hc, hd, items_of rv⟩
theorem refs_of : ∀ {ks : List KT} {us : List Value}, Vals (ks.map fun p => V.ref p.1) us → us = ks.map fun p => Value.ref p.1
  | [], _, .nil => rfl
  | _ :: _, _, .cons r t => by
    cases r
    rw [refs_of t]
    rfl
/-- len(set(t)): n is told by whether the items differ -/
def tLenSet (K : PySem.W.Frag) (ta : TE) : TE := fun σ H Q => ta σ H fun x G => ∃ (l : Addr) (ks : List KT), x = .ref l ∧ SqT K G l (ks.map fun p => V.ref p.1) ∧ (∀ p ∈ ks, SqT K G p.1 (p.2.map kV)) ∧ ks.length < 64 ∧
  ∀ n : Nat, n ≤ ks.length → (n = ks.length ↔ (ks.map (·.2)).Nodup) → Q (.int (n : Int)) G
theorem pe_lenSet {X : Cx} {a : Expr} {ta : TE} {k : Nat} {p p2 q pos : Pos} (hr : Room k X.A) (hg : Gl X "len") (hm : X.mg "len" = none) (hg2 : Gl X "set") (hm2 : X.mg "set" = none) (ha : PE X a ta) (hc : X.calm = true := by rfl)
    (na : starEach [a] X.env = (false, eval a X.env) :: starEach [] X.env := by rfl) : PE X (.Call (.Name "len" p) [.Call (.Name "set" p2) [a] [] q] [] pos) (tLenSet X.K ta) := by
  refine ⟨fun pins s σ H Q I h => ?_⟩
  refine Call_ (ld_blt I hg hm boot_len (PyProof.Rows.callWith_builtin1 (PyProof.Rows.args_cons (Call_ (ld_blt I hg2 hm2 boot_set ?_)) rfl) rfl rfl))
  refine PyProof.Rows.callWith_type1 (PyProof.Rows.args_cons (thn (ha.run pins s σ H _ I h) fun v s1 ⟨x, G, J, r1, q1⟩ => PyProof.Rows.args_nil ?_) na) na rfl
  obtain ⟨l, ks, rfl, hq, hks, hl, q1⟩ := q1
  cases r1
  obtain ⟨its, rv, tp, hz⟩ := J.tuple hq
  have hu := hr.units
  refine set_of ks (J.ok.hd hc) tp (by rw [refs_of rv]) (fun p hp => tk_of J (hks p hp)) hl (by omega) fun h' tk L es t R g kk => PyProof.Rows.args_nil ?_
  have J2 : Inv X pins σ G { s1 with heap := h', toks := tk } := J.kept kk
  obtain ⟨o, ep, ho, hex, hd⟩ := R.obj
  have hn := ents_len R.ents
  have hfull := g.full
  rw [List.take_length] at hfull
  exact call_len_set ho hex hd (R.fit (s := { s1 with heap := h', toks := tk })) (by rw [hn]; have := R.few; omega) ⟨.int (L.length : Nat), G, J2.tok _, ⟨_, by rw [hn]⟩, q1 L.length g.le hfull⟩
end AsSet

set_option maxHeartbeats 4000000
set_option autoImplicit false
/-! kinds: tuples of two texts; a tuple of them has no double. -/
namespace AsKit
open PySem PySem.Spec PyProof.Rows L2 AsSort
open Evl (Ex Ev EvT EvA)
def kD (p : Str × Str) : PyData := .tuple [.str p.1, .str p.2]
def kK (p : Str × Str) : List Key := [Sum.inr p.1, Sum.inr p.2]
theorem kK_inj {p q : Str × Str} (h : kK p = kK q) : p = q := by
  have e1 : (Sum.inr p.1 : Key) = Sum.inr q.1 := (List.cons.inj h).1
  have e2 : (Sum.inr p.2 : Key) = Sum.inr q.2 := (List.cons.inj (List.cons.inj h).2).1
  exact Prod.ext (Sum.inr.inj e1) (Sum.inr.inj e2)
theorem kK_nodup {ps : List (Str × Str)} : (ps.map kK).Nodup ↔ ps.Nodup := by
  unfold List.Nodup
  rw [List.pairwise_map]
  exact ⟨fun h => h.imp fun n e => n (by rw [e]), fun h => h.imp fun n e => n (kK_inj e)⟩
section
variable {K : PySem.W.Frag} {σ : L2.St} {H : Hp} {te : TE}
theorem kts {G : Hp} : ∀ {ps : List (Str × Str)} {xs : List V}, DpAll K G xs (ps.map kD) → ∃ ks : List AsSet.KT, xs = ks.map (fun p => V.ref p.1) ∧ (∀ p ∈ ks, SqT K G p.1 (p.2.map kV)) ∧ ks.map (·.2) = ps.map kK
  | [], _, .nil => ⟨[], rfl, fun _ h => (nomatch h), rfl⟩
  | p :: ps, _, .cons h t => by
    obtain ⟨ks, e1, e2, e3⟩ := kts (ps := ps) t
    cases h with
    | tup hs hx =>
      rename_i a ys
      obtain ⟨u, v, rfl, h1, h2⟩ := dp2 hx
      cases h1
      cases h2
      refine ⟨(a, kK p) :: ks, by rw [e1]; rfl, fun q hq => ?_, by rw [List.map_cons, List.map_cons, e3]⟩
      rcases List.mem_cons.mp hq with e | hq
      · rw [e]
        exact hs
      · exact e2 q hq
theorem d_lenSetEq {ps : List (Str × Str)} (h : EvD K te σ H (.tuple (ps.map kD))) (hl : ps.length < 64) : EvD K (tOp rEq (AsSet.tLenSet K te) (tCB (rLenQ K) (tCons te tNil))) σ H (.bool (decide ps.Nodup)) := fun H1 a Q q =>
  h H1 a _ fun v H2 x hd => by
    cases hd with
    | tup hs hx =>
      obtain ⟨ks, e1, e2, e3⟩ := kts hx
      subst e1
      have hk : ks.length = ps.length := by
        have z := congrArg List.length e3
        rw [List.length_map, List.length_map] at z
        exact z
      refine ⟨_, ks, rfl, hs, e2, by omega, fun n hn hi => ?_⟩
      refine h H2 (a.trans x) _ fun w H3 y hw => ?_
      cases hw with
      | tup hs3 hx3 =>
        rename_i c zs
        refine ⟨c, zs, rfl, .inr hs3, rfl, ?_⟩
        have hz : zs.length = ps.length := by rw [dpAll_len hx3, List.length_map]
        rw [hz]
        have e : decide (V.int (n : Int) = V.int ((ps.length : Nat) : Int)) = decide ps.Nodup := by
          rw [e3, kK_nodup] at hi
          by_cases c : ps.Nodup
          · rw [decide_eq_true c, hi.mpr c, hk]
            exact decide_eq_true rfl
          · rw [decide_eq_false c]
            exact decide_eq_false fun z => c (hi.mp (by have := Int.ofNat.inj (V.int.inj z); omega))
        rw [e]
        exact q _ H3 (x.trans y) (.bl _)
end
end AsKit

set_option maxHeartbeats 4000000
set_option autoImplicit false
namespace K27
open PySem PySem.Spec PyProof.Rows L2 AsSort AsKit
open Evl (Ex Ev EvT EvA)
def top (i : Nat) : Stmt := PySem.Challenge.pw_anyscribe_k27_whole_desks.main.body.getD i (.Pass ⟨0, 0, 0, 0⟩)
abbrev sIsInteger : Stmt := top 18
abbrev sIsLetters : Stmt := top 19
abbrev sIsText : Stmt := top 20
abbrev sIsTextWithin : Stmt := top 21
abbrev sIsKind : Stmt := top 22
abbrev sIsLot : Stmt := top 23
abbrev sCheckLetters : Stmt := top 24
abbrev sCheckText : Stmt := top 25
abbrev sCheckKinds : Stmt := top 26
section
variable {P : Program} {w : World} {K : PySem.W.Frag} {mg : Str → Option Value} {base : Heap}
theorem sc_is_integer : FnScope ["value"] ["value"] (defScope sIsInteger) := ⟨rfl, rfl, rfl, by decide +kernel, rfl, by decide +kernel, by decide +kernel⟩
def isIntD (d : PyData) : Bool := isD "int" d && !isD "bool" d
abbrev spIsInteger (K : PySem.W.Frag) : Sp := spP K (fun ds => ds.length = 1) (one fun d => .bool (isIntD d))
theorem c_is_integer (D : Df K mg "is_integer" sIsInteger) (hb : Bl mg) : Cl P w K mg base 1 "is_integer" (spIsInteger K) [] := by
  refine cl_of D sc_is_integer (len_sp fun ds h => h) (fun _ _ _ _ _ _ us hl => match us, hl with | [_], _ => rfl) fun f cdv A outer s H vs Q E hr h => ?_
  obtain ⟨ds, hd, hp, q⟩ := h
  refine ⟨_, pss_one (ps_ret (pe_and (pe_isi (x := "int") (T := "int") hb (pv 0)) (pe_one (pe_not (pe_isi (x := "bool") (T := "bool") hb (pv 0)))))), ?_⟩
  obtain ⟨d, rfl⟩ := List.length_eq_one_iff.mp hp
  cases hd with
  | cons h1 hd =>
    cases hd
    have a0 : At K (start ["value"] [_]) H 0 d := ⟨_, rfl, h1⟩
    exact AsKit.s_ret (K := K) (d_and (d_isD (d_var a0)) fun _ => d_not (d_isD (d_var a0))) q
abbrev nIsLetters : List Str := ["value", "small", "rising", "letter", "at"]
theorem sc_is_letters : FnScope nIsLetters ["value"] (defScope sIsLetters) := ⟨rfl, rfl, rfl, by decide +kernel, rfl, by decide +kernel, by decide +kernel⟩
def leS (i j : Str) : Bool := !decide (j.cps.toList < i.cps.toList)
def smF : PyData → Bool
  | .str y => leS "a" y && leS y "z"
  | _ => false
def riF (z : Str) : PyData → Bool
  | .int i => match atI z.cps.toList (i - 1), atI z.cps.toList i with
    | some a, some b => decide ([a] < [b])
    | _, _ => false
  | _ => false
def isLetS (z : Str) : Bool := decide ((1 : Int) ≤ z.length) && decide ((z.length : Int) ≤ 4) && (decide (((((sgns z).filter smF).map id).length : Int) = z.length) && decide (((((rngD 1 ((z.length : Int) - 1).toNat).filter (riF z)).map id).length : Int) = (z.length : Int) - 1))
def isLettersD : PyData → Bool
  | .str z => isLetS z
  | _ => false
abbrev spIsLetters (K : PySem.W.Frag) : Sp := spP K (fun ds => ∃ d, ds = [d] ∧ Tx d) (one fun d => .bool (isLettersD d))
theorem c_is_letters (D : Df K mg "is_letters" sIsLetters) (hb : Bl mg) (hm : Gn mg "MOST_LETTERS" 4) : Cl P w K mg base 1 "is_letters" (spIsLetters K) [] := by
  refine cl_of D sc_is_letters (len_sp fun ds ⟨d, h, _⟩ => by rw [h]; rfl) (fun _ _ _ _ _ _ us hl => match us, hl with | [_], _ => rfl) fun f cdv A outer s H vs Q E hr h => ?_
  obtain ⟨ds, hd, ⟨d, rfl, ht⟩, q⟩ := h
  obtain ⟨v, rfl, h0⟩ := dp1 hd
  refine ⟨_, pss_cons (ps_if (pw_or (pt_not (pt_val (pe_isi (x := "str") (T := "str") hb (pv 0)))) (pw_or1 (pt_not (pt_chain op_le op_le pe_int (pe_lenS hb (pv 0)) (pe_gn hm))))).pt (pss_one (ps_ret pe_bl)) pss_nil)
    (pss_cons (ps_setLcn (i := 1) 3 sc_is_letters.nd (pi_str (pv 0)) (fun _ _ _ _ _ => pts_one (pt_chain op_le_str op_le_str pe_str (pv 3) pe_str)) (fun _ _ _ _ _ => pv 3) (fun _ _ _ _ _ => pg_name sc_is_letters.nd rfl (.inl rfl)) (blkOk_by (N := nIsLetters) (sc := defScope sIsLetters) (own := [("letter", 3)]) (by decide +kernel)) rfl rfl rfl (sw_true rfl rfl rfl (by decide +kernel)))
    (pss_cons (ps_setLcn (i := 2) 4 sc_is_letters.nd (pi_range2 (by rfl) (hb _ (by decide +kernel)) (pa_cons pe_int (pa_cons (pe_lenS hb (pv 0)) pa_nil))) (fun _ _ _ _ _ => pts_one (pt_cmpR op_lt_str (pe_ix ix_str (pv 0) (pe_op op_sub (pv 4) pe_int) (fun _ _ => rfl)) (pe_ix ix_str (pv 0) (pv 4) (fun _ _ => rfl)) (nomark _))) (fun _ _ _ _ _ => pv 4) (fun _ _ _ _ _ => pg_name sc_is_letters.nd rfl (.inl rfl)) (blkOk_by (N := nIsLetters) (sc := defScope sIsLetters) (own := [("at", 4)]) (by decide +kernel)) rfl rfl rfl (sw_true rfl rfl rfl (by decide +kernel)))
    (pss_one (ps_ret (pe_and (pe_cmpR op_eq (pe_lenQ hb (pv 1)) (pe_lenS hb (pv 0)) (nomark _)) (pe_one (pe_cmpR op_eq (pe_lenQ hb (pv 2)) (pe_op op_sub (pe_lenS hb (pv 0)) pe_int) (nomark _)))))))), ?_⟩
  have a0 : At K (start nIsLetters [v]) H 0 d := ⟨_, rfl, h0⟩
  by_cases hs : isD "str" d = true
  · obtain ⟨z, rfl⟩ := isD_str hs
    have hz : z.length ≤ 40000 := ht z rfl
    have hz1 : z.length ≤ 100000 := by omega
    refine Evl.q_when (b := !(isD "str" (.str z)) || !(decide ((1 : Int) ≤ z.length) && decide ((z.length : Int) ≤ 4))) (Evl.et_or (Evl.et_not (t_ofB (d_isD (d_var a0)))) fun _ => Evl.et_not (t_ofD (d_chI (g1 := fun i j => decide (i ≤ j)) (g2 := fun i j => decide (i ≤ j)) d_int (d_lenS (d_var a0) hz1) fun _ => d_int))) (fun hb1 H1 e1 => AsKit.s_ret (K := K) d_bl fun u H2 e2 hu => q u H2 (e1.trans e2) ?_) fun hb1 H1 e1 => ?_
    · have : isLettersD (.str z) = false := by
        rw [hs, Bool.not_true, Bool.false_or, Bool.not_eq_true'] at hb1
        show isLetS z = false
        unfold isLetS
        rw [hb1, Bool.false_and]
      show Dp K H2 u (.bool (isLettersD (.str z)))
      rw [this]
      exact hu
    · rw [hs, Bool.not_true, Bool.false_or] at hb1
      have hb2 : (decide ((1 : Int) ≤ z.length) && decide ((z.length : Int) ≤ 4)) = true := by simpa using hb1
      have hz4 : z.length ≤ 4 ∧ 1 ≤ z.length := by
        simp only [Bool.and_eq_true, decide_eq_true_eq] at hb2
        omega
      refine AsKit.q_asg (d_lcS (z := z) smF id (d_var (a0.mono e1)) (by omega) (fun d hd hf => ?_) fun c hc x H2 e2 hx k hk => hk _ rfl (t_ofD (K := K) ?_) fun _ => d_var ⟨_, rfl, hx⟩) fun v1 H2 e2 h1 => ?_
      · obtain ⟨c, _, rfl⟩ := List.mem_map.mp hd
        rfl
      · exact d_chS (g1 := leS) (g2 := leS) d_str (d_var ⟨_, rfl, hx⟩) d_str
      have b0 : At K ((start nIsLetters [v]).set 1 (some v1)) H2 0 (.str z) := ⟨_, rfl, dp_ex (e1.trans e2) h0⟩
      refine AsKit.q_asg (d_lcR2 (lo := 1) (hi := z.length) (riF z) id (ds_cons d_int (ds_cons (d_lenS (d_var b0) hz1) ds_nil)) (by omega) (fun d hd hf => ?_) fun i hi x H3 e3 hx k hk => hk _ rfl (t_ofD (K := K) ?_) fun _ => d_var ⟨_, rfl, hx⟩) fun v2 H3 e3 h2 => ?_
      · obtain ⟨c, _, rfl⟩ := List.mem_map.mp hd
        rfl
      · have hl : z.cps.toList.length = z.length := Array.length_toList
        have hA : ∀ n : Nat, n < z.length → ∃ c, atI z.cps.toList (n : Int) = some c := fun n hn => ⟨_, atI_nat (List.getElem?_eq_getElem (by omega))⟩
        obtain ⟨p1, q1⟩ := hA i (by omega)
        obtain ⟨p2, q2⟩ := hA (i + 1) (by omega)
        have x1 : (1 : Int) + (i : Int) - 1 = (i : Int) := by omega
        have x2 : (1 : Int) + (i : Int) = ((i + 1 : Nat) : Int) := by omega
        have r : riF z (.int (1 + i)) = decide ([p1] < [p2]) := by
          show (match atI z.cps.toList (1 + (i : Int) - 1), atI z.cps.toList (1 + (i : Int)) with
            | some a, some b => decide ([a] < [b])
            | _, _ => false) = _
          rw [x1, x2, q1, q2]
        rw [r]
        have c0 : At K ((wipe (((start nIsLetters [v]).set 1 (some v1))) [4]).set 4 (some x)) H3 0 (.str z) := ⟨_, rfl, dp_ex ((e1.trans e2).trans e3) h0⟩
        have c4 : At K ((wipe (((start nIsLetters [v]).set 1 (some v1))) [4]).set 4 (some x)) H3 4 (.int (1 + i)) := ⟨_, rfl, hx⟩
        exact d_cmpS (g := fun i j => decide (i.cps.toList < j.cps.toList)) (d_ixS (c := p1) (d_var c0) (d_arI (g := fun i j => i - j) (d_var c4) d_int) hz1 (by rw [x1]; exact q1)) (d_ixS (c := p2) (d_var c0) (d_var c4) hz1 (by rw [x2]; exact q2))
      have c0 : At K (((start nIsLetters [v]).set 1 (some v1)).set 2 (some v2)) H3 0 (.str z) := ⟨_, rfl, dp_ex ((e1.trans e2).trans e3) h0⟩
      have c1 : At K (((start nIsLetters [v]).set 1 (some v1)).set 2 (some v2)) H3 1 _ := ⟨_, rfl, dp_ex e3 h1⟩
      have c2 : At K (((start nIsLetters [v]).set 1 (some v1)).set 2 (some v2)) H3 2 _ := ⟨_, rfl, h2⟩
      refine AsKit.s_ret (K := K) (d_and (d_eqI (d_lenL (d_var c1)) (d_lenS (d_var c0) hz1)) fun _ => d_eqI (d_lenL (d_var c2)) (d_arI (g := fun i j => i - j) (d_lenS (d_var c0) hz1) d_int)) fun u H4 e4 hu => q u H4 (((e1.trans e2).trans e3).trans e4) ?_
      show Dp K H4 u (.bool (isLettersD (.str z)))
      show Dp K H4 u (.bool (isLetS z))
      unfold isLetS
      rw [hb2, Bool.true_and]
      exact hu
  · have hs : isD "str" d = false := by simpa using hs
    refine Evl.q_when (b := !(isD "str" d) || false) (Evl.et_or (Evl.et_not (t_ofB (d_isD (d_var a0)))) fun h => by rw [hs] at h; cases h) (fun hb1 H1 e1 => AsKit.s_ret (K := K) d_bl fun u H2 e2 hu => q u H2 (e1.trans e2) ?_) fun hb1 => by rw [hs] at hb1; cases hb1
    have : isLettersD d = false := by
      cases d with
      | str z => rw [isD_str1] at hs; cases hs
      | _ => rfl
    show Dp K H2 u (.bool (isLettersD d))
    rw [this]
    exact hu
abbrev nIsText : List Str := ["letters", "value", "letter"]
theorem sc_is_text : FnScope nIsText ["letters", "value"] (defScope sIsText) := ⟨rfl, rfl, rfl, by decide +kernel, rfl, by decide +kernel, by decide +kernel⟩
def allIn (y z : Str) : Bool := z.cps.toList.all fun c => decide (c ∈ y.cps.toList)
def isTextD : PyData → PyData → Bool
  | .str y, .str z => allIn y z
  | _, _ => false
theorem isTextD_no {l d : PyData} (h : isD "str" d = false) : isTextD l d = false := by
  cases d with
  | str z => rw [isD_str1] at h; cases h
  | _ => cases l <;> rfl
abbrev spIsText (K : PySem.W.Frag) : Sp := spP K (fun ds => ∃ y d, ds = [.str y, d] ∧ Tx d) (two fun l d => .bool (isTextD l d))
theorem c_is_text (D : Df K mg "is_text" sIsText) (hb : Bl mg) : Cl P w K mg base 1 "is_text" (spIsText K) [] := by
  refine cl_of D sc_is_text (len_sp fun ds ⟨y, d, h, _⟩ => by rw [h]; rfl) (fun _ _ _ _ _ _ us hl => match us, hl with | [_, _], _ => rfl) fun f cdv A outer s H vs Q E hr h => ?_
  obtain ⟨ds, hd, ⟨y, d, rfl, ht⟩, q⟩ := h
  obtain ⟨v, v2, rfl, h0, h1⟩ := dp2 hd
  refine ⟨_, pss_one (ps_ret (pe_and (pe_isi (x := "str") (T := "str") hb (pv 1)) (pe_one (pe_allL rfl hb (pe_lcn 2 sc_is_text.nd (pi_str (pv 1)) (fun _ _ _ _ _ => pts_nil) (fun _ _ _ _ _ => pe_cmpR op_inS (pv 2) (pv 0) rfl) (fun _ _ _ _ _ => pg_name sc_is_text.nd rfl (.inl rfl)) (blkOk_by (N := nIsText) (sc := defScope sIsText) (own := [("letter", 2)]) (by decide +kernel)) rfl))))), ?_⟩
  have a0 : At K (start nIsText [v, v2]) H 0 (.str y) := ⟨_, rfl, h0⟩
  have a1 : At K (start nIsText [v, v2]) H 1 d := ⟨_, rfl, h1⟩
  by_cases hs : isD "str" d = true
  · obtain ⟨z, rfl⟩ := isD_str hs
    have hz : z.length ≤ 40000 := ht z rfl
    refine AsKit.s_ret (K := K) (d_and (b := allIn y z) (d_isD (d_var a1)) fun _ => ?_) fun u H2 e2 hu => q u H2 e2 ?_
    · have e : (((sgns z).filter fun _ => true).map fun d => PyData.bool (match d with | .str ⟨#[c]⟩ => decide (c ∈ y.cps.toList) | _ => false)) = (z.cps.toList.map fun c => decide (c ∈ y.cps.toList)).map PyData.bool := by
        rw [List.filter_eq_self.mpr fun _ _ => rfl]
        unfold sgns
        rw [List.map_map, List.map_map]
        rfl
      refine d_eqTo (d_all (bs := z.cps.toList.map fun c => decide (c ∈ y.cps.toList)) (d_eqTo (d_lcS (z := z) (fun _ => true) (fun d => PyData.bool (match d with | .str ⟨#[c]⟩ => decide (c ∈ y.cps.toList) | _ => false)) (d_var a1) (by omega) (fun _ _ _ => rfl) fun c hc x H2 e2 hx k hk => hk _ rfl (fun H3 e3 Q q => q H3 (Ex.refl H3)) fun _ => ?_) (congrArg PyData.list e))) ?_
      · exact d_inS (d_var ⟨_, rfl, hx⟩) (d_var ⟨_, rfl, dp_ex e2 h0⟩)
      · unfold allIn
        rw [List.all_map]
        rfl
    · show Dp K H2 u (.bool (allIn y z))
      rw [hs, Bool.true_and] at hu
      exact hu
  · have hs : isD "str" d = false := by simpa using hs
    refine AsKit.s_ret (K := K) (d_and (b := true) (d_isD (d_var a1)) fun h => by rw [hs] at h; cases h) fun u H2 e2 hu => q u H2 e2 ?_
    show Dp K H2 u (.bool (isTextD (.str y) d))
    rw [isTextD_no hs]
    rw [hs, Bool.false_and] at hu
    exact hu
abbrev nIsTextWithin : List Str := ["letters", "value", "longest"]
theorem sc_is_text_within : FnScope nIsTextWithin ["letters", "value", "longest"] (defScope sIsTextWithin) := ⟨rfl, rfl, rfl, by decide +kernel, rfl, by decide +kernel, by decide +kernel⟩
def withinS (y z : Str) (n : Int) : Bool := decide ((z.length : Int) ≤ n) && allIn y z
def withinD (y : Str) (n : Int) : PyData → Bool
  | .str z => withinS y z n
  | _ => false
theorem withinD_no {y : Str} {n : Int} {d : PyData} (h : isD "str" d = false) : withinD y n d = false := by
  cases d with
  | str z => rw [isD_str1] at h; cases h
  | _ => rfl
def tw3 : PyData → PyData → PyData → PyData
  | .str y, d, .int n => .bool (withinD y n d)
  | _, _, _ => .none
abbrev spIsTextWithin (K : PySem.W.Frag) : Sp := spP K (fun ds => ∃ y d n, ds = [.str y, d, .int n] ∧ Tx d) (three tw3)
theorem c_is_text_within (D : Df K mg "is_text_within" sIsTextWithin) (hb : Bl mg) (C1 : Cl P w K mg base 1 "is_text" (spIsText K) []) : Cl P w K mg base 2 "is_text_within" (spIsTextWithin K) [] := by
  refine cl_of D sc_is_text_within (len_sp fun ds ⟨y, d, n, h, _⟩ => by rw [h]; rfl) (fun _ _ _ _ _ _ us hl => match us, hl with | [_, _, _], _ => rfl) fun f cdv A outer s H vs Q E hr h => ?_
  obtain ⟨ds, hd, ⟨y, d, n, rfl, ht⟩, q⟩ := h
  obtain ⟨v, v2, v3, rfl, h0, h1, h2⟩ := dp3 hd
  refine ⟨_, pss_one (ps_ret (pe_and (pe_isi (x := "str") (T := "str") hb (pv 1)) (pe_and (pe_cmpR op_le (pe_lenS hb (pv 1)) (pv 2) (nomark _)) (pe_one (C8.pe_c C1 hr (by decide) (by rfl) (pa_cons (pv 0) (pa_cons (pv 1) pa_nil))))))), ?_⟩
  have a0 : At K (start nIsTextWithin [v, v2, v3]) H 0 (.str y) := ⟨_, rfl, h0⟩
  have a1 : At K (start nIsTextWithin [v, v2, v3]) H 1 d := ⟨_, rfl, h1⟩
  have a2 : At K (start nIsTextWithin [v, v2, v3]) H 2 (.int n) := ⟨_, rfl, h2⟩
  by_cases hs : isD "str" d = true
  · obtain ⟨z, rfl⟩ := isD_str hs
    have hz : z.length ≤ 40000 := ht z rfl
    refine AsKit.s_ret (K := K) (d_and (b := withinS y z n) (d_isD (d_var a1)) fun _ => d_and (d_cmpI (g := fun i j => decide (i ≤ j)) (d_lenS (d_var a1) (by omega)) (d_var a2)) fun _ => d_call (ds_cons (d_var a0) (ds_cons (d_var a1) ds_nil)) ⟨y, .str z, rfl, ht⟩) fun u H2 e2 hu => q u H2 e2 ?_
    show Dp K H2 u (.bool (withinS y z n))
    rw [hs, Bool.true_and] at hu
    exact hu
  · have hs : isD "str" d = false := by simpa using hs
    refine AsKit.s_ret (K := K) (d_and (b := true) (d_isD (d_var a1)) fun h => by rw [hs] at h; cases h) fun u H2 e2 hu => q u H2 e2 ?_
    show Dp K H2 u (.bool (withinD y n d))
    rw [withinD_no hs]
    rw [hs, Bool.false_and] at hu
    exact hu
theorem two_of : ∀ {es : List PyData}, es.length = 2 → ∃ a b, es = [a, b]
  | [a, b], _ => ⟨a, b, rfl⟩
abbrev nIsKind : List Str := ["letters", "value", "left", "right"]
theorem sc_is_kind : FnScope nIsKind ["letters", "value"] (defScope sIsKind) := ⟨rfl, rfl, rfl, by decide +kernel, rfl, by decide +kernel, by decide +kernel⟩
def neS : PyData → PyData → Bool
  | .str a, .str b => !decide (a = b)
  | _, _ => false
def kindD (y : Str) : PyData → Bool
  | .tuple [a, b] => (withinD y 3 a && withinD y 1 b) && neS a b
  | _ => false
theorem kindD_no {y : Str} {d : PyData} (h : isD "tuple" d = false) : kindD y d = false := by
  cases d with
  | tuple z => rw [isD_tup1] at h; cases h
  | _ => rfl
theorem kindD_len {y : Str} {ds : List PyData} (h : ds.length ≠ 2) : kindD y (.tuple ds) = false := by
  match ds, h with
  | [], _ => rfl
  | [_], _ => rfl
  | [_, _], h => exact (h rfl).elim
  | _ :: _ :: _ :: _, _ => rfl
/-- the items' texts are of a length that can be told -/
def TxK (d : PyData) : Prop := ∀ ds, d = .tuple ds → ∀ e ∈ ds, Tx e
def kd2 : PyData → PyData → PyData
  | .str y, d => .bool (kindD y d)
  | _, _ => .none
abbrev spIsKind (K : PySem.W.Frag) : Sp := spP K (fun ds => ∃ y d, ds = [.str y, d] ∧ TxK d) (two kd2)
theorem withinD_str {y : Str} {n : Int} {d : PyData} (h : withinD y n d = true) : ∃ z, d = .str z := by
  cases d with
  | str z => exact ⟨z, rfl⟩
  | _ => cases h
theorem c_is_kind (D : Df K mg "is_kind" sIsKind) (hb : Bl mg) (g3 : Gn mg "LONGEST_LEFT" 3) (g1 : Gn mg "LONGEST_RIGHT" 1) (C1 : Cl P w K mg base 2 "is_text_within" (spIsTextWithin K) []) : Cl P w K mg base 3 "is_kind" (spIsKind K) [] := by
  refine cl_of D sc_is_kind (len_sp fun ds ⟨y, d, h, _⟩ => by rw [h]; rfl) (fun _ _ _ _ _ _ us hl => match us, hl with | [_, _], _ => rfl) fun f cdv A outer s H vs Q E hr h => ?_
  obtain ⟨ds, hd, ⟨y, d, rfl, ht⟩, q⟩ := h
  obtain ⟨v, v2, rfl, h0, h1⟩ := dp2 hd
  refine ⟨_, pss_cons (ps_if (pw_or (pt_not (pt_val (pe_isi (x := "tuple") (T := "tuple") hb (pv 1)))) (pw_or1 (pt_cmpR op_ne (pe_lenQ hb (pv 1)) pe_int (nomark _)))).pt (pss_one (ps_ret pe_bl)) pss_nil)
    (pss_cons (ps_asg (pv 1) (pg_tup rfl (pgs_cons (pg_name (i := 2) sc_is_kind.nd rfl (.inl rfl)) (pgs_cons (pg_name (i := 3) sc_is_kind.nd rfl (.inl rfl)) pgs_nil))))
    (pss_cons (ps_if (pw_or (pt_not (pt_val (C8.pe_c C1 hr (by decide) (by rfl) (pa_cons (pv 0) (pa_cons (pv 2) (pa_cons (pe_gn g3) pa_nil)))))) (pw_or1 (pt_not (pt_val (C8.pe_c C1 hr (by decide) (by rfl) (pa_cons (pv 0) (pa_cons (pv 3) (pa_cons (pe_gn g1) pa_nil)))))))).pt (pss_one (ps_ret pe_bl)) pss_nil)
    (pss_one (ps_ret (pe_cmpR op_ne (pv 2) (pv 3) (nomark _)))))), ?_⟩
  have a0 : At K (start nIsKind [v, v2]) H 0 (.str y) := ⟨_, rfl, h0⟩
  have a1 : At K (start nIsKind [v, v2]) H 1 d := ⟨_, rfl, h1⟩
  by_cases hs : isD "tuple" d = true
  · obtain ⟨es, rfl⟩ := isD_tup hs
    refine Evl.q_when (b := !(isD "tuple" (.tuple es)) || !decide ((es.length : Int) = 2)) (Evl.et_or (Evl.et_not (t_ofB (d_isD (d_var a1)))) fun _ => t_ofD (d_neI (d_lenT (d_var a1)) d_int)) (fun hb1 H1 e1 => AsKit.s_ret (K := K) d_bl fun u H2 e2 hu => q u H2 (e1.trans e2) ?_) fun hb1 H1 e1 => ?_
    · rw [hs, Bool.not_true, Bool.false_or] at hb1
      have hl : es.length ≠ 2 := fun z => by rw [z] at hb1; cases hb1
      show Dp K H2 u (.bool (kindD y (.tuple es)))
      rw [kindD_len hl]
      exact hu
    · rw [hs, Bool.not_true, Bool.false_or] at hb1
      have hl : es.length = 2 := by
        have z := of_decide_eq_true (by simpa using hb1 : decide ((es.length : Int) = 2) = true)
        omega
      obtain ⟨a, b, rfl⟩ := two_of hl
      have ta : Tx a := ht _ rfl a (by simp)
      have tb : Tx b := ht _ rfl b (by simp)
      refine ⟨v2, rfl, g_two (dp_ex e1 h1) fun va vb ha hb2 => ?_⟩
      have c0 : At K (((start nIsKind [v, v2]).set 2 (some va)).set 3 (some vb)) H1 0 (.str y) := ⟨_, rfl, dp_ex e1 h0⟩
      have c2 : At K (((start nIsKind [v, v2]).set 2 (some va)).set 3 (some vb)) H1 2 a := ⟨_, rfl, ha⟩
      have c3 : At K (((start nIsKind [v, v2]).set 2 (some va)).set 3 (some vb)) H1 3 b := ⟨_, rfl, hb2⟩
      dsimp only
      refine Evl.q_when (b := !(withinD y 3 a) || !(withinD y 1 b)) (Evl.et_or (Evl.et_not (t_ofB (d_call (ds_cons (d_var c0) (ds_cons (d_var c2) (ds_cons d_int ds_nil))) ⟨y, a, 3, rfl, ta⟩))) fun _ => Evl.et_not (t_ofB (d_call (ds_cons (d_var c0) (ds_cons (d_var c3) (ds_cons d_int ds_nil))) ⟨y, b, 1, rfl, tb⟩)))
        (fun hb3 H2 e2 => AsKit.s_ret (K := K) d_bl fun u H3 e3 hu => q u H3 ((e1.trans e2).trans e3) ?_) fun hb3 H2 e2 => ?_
      · have z : (withinD y 3 a && withinD y 1 b) = false := by rw [← Bool.not_and] at hb3; exact (Bool.not_eq_true' _).mp hb3
        show Dp K H3 u (.bool ((withinD y 3 a && withinD y 1 b) && neS a b))
        rw [z, Bool.false_and]
        exact hu
      · have z : withinD y 3 a = true ∧ withinD y 1 b = true := by simpa using hb3
        obtain ⟨xa, rfl⟩ := withinD_str z.1
        obtain ⟨xb, rfl⟩ := withinD_str z.2
        refine AsKit.s_ret (K := K) (d_neS (d_var (c2.mono e2)) (d_var (c3.mono e2))) fun u H3 e3 hu => q u H3 ((e1.trans e2).trans e3) ?_
        show Dp K H3 u (.bool ((withinD y 3 (.str xa) && withinD y 1 (.str xb)) && !decide (xa = xb)))
        rw [z.1, z.2, Bool.true_and, Bool.true_and]
        exact hu
  · have hs : isD "tuple" d = false := by simpa using hs
    refine Evl.q_when (b := !(isD "tuple" d) || false) (Evl.et_or (Evl.et_not (t_ofB (d_isD (d_var a1)))) fun h => by rw [hs] at h; cases h) (fun hb1 H1 e1 => AsKit.s_ret (K := K) d_bl fun u H2 e2 hu => q u H2 (e1.trans e2) ?_) fun hb1 => by rw [hs] at hb1; cases hb1
    show Dp K H2 u (.bool (kindD y d))
    rw [kindD_no hs]
    exact hu
abbrev nIsLot : List Str := ["letters", "value", "kind"]
theorem sc_is_lot : FnScope nIsLot ["letters", "value"] (defScope sIsLot) := ⟨rfl, rfl, rfl, by decide +kernel, rfl, by decide +kernel, by decide +kernel⟩
def pairOf : PyData → Str × Str
  | .tuple [.str a, .str b] => (a, b)
  | _ => ("", "")
theorem kD_pair {y : Str} {d : PyData} (h : kindD y d = true) : d = kD (pairOf d) := by
  match d, h with
  | .tuple [a, b], h =>
    have h2 : ((withinD y 3 a && withinD y 1 b) && neS a b) = true := h
    simp only [Bool.and_eq_true] at h2
    obtain ⟨xa, rfl⟩ := withinD_str h2.1.1
    obtain ⟨xb, rfl⟩ := withinD_str h2.1.2
    rfl
def lotL (y : Str) (ds : List PyData) : Bool := decide (ds.length ≤ 12) && (ds.all (kindD y) && decide (ds.map pairOf).Nodup)
def lotD (y : Str) : PyData → Bool
  | .tuple ds => lotL y ds
  | _ => false
theorem lotD_no {y : Str} {d : PyData} (h : isD "tuple" d = false) : lotD y d = false := by
  cases d with
  | tuple z => rw [isD_tup1] at h; cases h
  | _ => rfl
def TxL (d : PyData) : Prop := ∀ ds, d = .tuple ds → ∀ e ∈ ds, TxK e
def lt2 : PyData → PyData → PyData
  | .str y, d => .bool (lotD y d)
  | _, _ => .none
abbrev spIsLot (K : PySem.W.Frag) : Sp := spP K (fun ds => ∃ y d, ds = [.str y, d] ∧ TxL d) (two lt2)
theorem c_is_lot (D : Df K mg "is_lot" sIsLot) (hb : Bl mg) (g12 : Gn mg "MOST_KINDS" 12) (C1 : Cl P w K mg base 3 "is_kind" (spIsKind K) []) : Cl P w K mg base 4 "is_lot" (spIsLot K) [] := by
  refine cl_of D sc_is_lot (len_sp fun ds ⟨y, d, h, _⟩ => by rw [h]; rfl) (fun _ _ _ _ _ _ us hl => match us, hl with | [_, _], _ => rfl) fun f cdv A outer s H vs Q E hr h => ?_
  obtain ⟨ds, hd, ⟨y, d, rfl, ht⟩, q⟩ := h
  obtain ⟨v, v2, rfl, h0, h1⟩ := dp2 hd
  refine ⟨_, pss_cons (ps_if (pw_or (pt_not (pt_val (pe_isi (x := "tuple") (T := "tuple") hb (pv 1)))) (pw_or1 (pt_cmpR op_gt (pe_lenQ hb (pv 1)) (pe_gn g12) (nomark _)))).pt (pss_one (ps_ret pe_bl)) pss_nil)
    (pss_one (ps_ret (pe_and (pe_allL rfl hb (pe_lcn 2 sc_is_lot.nd (pi_tup (pv 1)) (fun _ _ _ _ _ => pts_nil) (fun s2 H2 C cl fp => C8.pe_c C1 hr (by decide) (by rfl) (pa_cons (pv 0) (pa_cons (pv 2) pa_nil))) (fun _ _ _ _ _ => pg_name sc_is_lot.nd rfl (.inl rfl)) (blkOk_by (N := nIsLot) (sc := defScope sIsLot) (own := [("kind", 2)]) (by decide +kernel)) rfl))
      (pe_one (pe_cmpR op_eq (AsSet.pe_lenSet hr (by rfl) (hb _ (by decide +kernel)) (by rfl) (hb _ (by decide +kernel)) (pv 1)) (pe_lenQ hb (pv 1)) (nomark _)))))), ?_⟩
  have a0 : At K (start nIsLot [v, v2]) H 0 (.str y) := ⟨_, rfl, h0⟩
  have a1 : At K (start nIsLot [v, v2]) H 1 d := ⟨_, rfl, h1⟩
  by_cases hs : isD "tuple" d = true
  · obtain ⟨es, rfl⟩ := isD_tup hs
    refine Evl.q_when (b := !(isD "tuple" (.tuple es)) || decide ((12 : Int) < (es.length : Int))) (Evl.et_or (Evl.et_not (t_ofB (d_isD (d_var a1)))) fun _ => t_ofD (d_cmpI (g := fun i j => decide (j < i)) (d_lenT (d_var a1)) d_int)) (fun hb1 H1 e1 => AsKit.s_ret (K := K) d_bl fun u H2 e2 hu => q u H2 (e1.trans e2) ?_) fun hb1 H1 e1 => ?_
    · rw [hs, Bool.not_true, Bool.false_or] at hb1
      have hl : ¬ es.length ≤ 12 := fun z => by have := of_decide_eq_true hb1; omega
      show Dp K H2 u (.bool (lotL y es))
      unfold lotL
      rw [decide_eq_false hl, Bool.false_and]
      exact hu
    · rw [hs, Bool.not_true, Bool.false_or] at hb1
      have hl : es.length ≤ 12 := by have := of_decide_eq_false hb1; omega
      refine AsKit.s_ret (K := K) (d_and (a := es.all (kindD y)) (b := decide (es.map pairOf).Nodup) ?_ fun hk => ?_) fun u H2 e2 hu => q u H2 (e1.trans e2) ?_
      · have e : ((es.filter fun _ => true).map fun d => PyData.bool (kindD y d)) = (es.map (kindD y)).map PyData.bool := by
          rw [List.filter_eq_self.mpr fun _ _ => rfl, List.map_map]
          rfl
        refine d_eqTo (d_all (bs := es.map (kindD y)) (d_eqTo (d_lcT (fun _ => true) (fun d => PyData.bool (kindD y d)) (d_var (a1.mono e1)) (by omega) (fun _ _ _ => rfl) fun d hd x H2 e2 hx k hk => hk _ rfl (fun H3 e3 Q q => q H3 (Ex.refl H3)) fun _ => ?_) (congrArg PyData.list e))) ?_
        · exact d_call (ds_cons (d_var ⟨_, rfl, dp_ex (e1.trans e2) h0⟩) (ds_cons (d_var ⟨_, rfl, hx⟩) ds_nil)) ⟨y, d, rfl, ht _ rfl d hd⟩
        · rw [List.all_map]
          rfl
      · have e : es = (es.map pairOf).map kD := by
          rw [List.map_map]
          refine (List.map_id'' (fun _ => rfl) es).symm.trans (List.map_congr_left fun d hd => ?_)
          exact kD_pair (List.all_eq_true.mp hk d hd)
        refine d_lenSetEq (d_eqTo (d_var (a1.mono e1)) (congrArg PyData.tuple e)) (by rw [List.length_map]; omega)
      · show Dp K H2 u (.bool (lotL y es))
        unfold lotL
        rw [decide_eq_true hl, Bool.true_and]
        exact hu
  · have hs : isD "tuple" d = false := by simpa using hs
    refine Evl.q_when (b := !(isD "tuple" d) || false) (Evl.et_or (Evl.et_not (t_ofB (d_isD (d_var a1)))) fun h => by rw [hs] at h; cases h) (fun hb1 H1 e1 => AsKit.s_ret (K := K) d_bl fun u H2 e2 hu => q u H2 (e1.trans e2) ?_) fun hb1 => by rw [hs] at hb1; cases hb1
    show Dp K H2 u (.bool (lotD y d))
    rw [lotD_no hs]
    exact hu
end
end K27

set_option maxHeartbeats 4000000
set_option autoImplicit false
namespace K27
open PySem PySem.Spec PyProof.Rows L2 AsSort AsKit
open Evl (Ex Ev EvT EvA)
abbrev sTextBehind : Stmt := top 29
abbrev sIsDeedOn : Stmt := top 30
abbrev sCheckDeedsOf : Stmt := top 31
abbrev sDone : Stmt := top 32
section
variable {P : Program} {w : World} {K : PySem.W.Frag} {mg : Str → Option Value} {base : Heap}
theorem sc_check_letters : FnScope ["letters"] ["letters"] (defScope sCheckLetters) := ⟨rfl, rfl, rfl, by decide +kernel, rfl, by decide +kernel, by decide +kernel⟩
abbrev non1 : List PyData → PyData := fun _ => .none
abbrev spCheckLetters (K : PySem.W.Frag) : Sp := spP K (fun ds => ∃ d, ds = [d] ∧ Tx d ∧ isLettersD d = true) non1
theorem c_check_letters (D : Df K mg "check_letters" sCheckLetters) (C1 : Cl P w K mg base 1 "is_letters" (spIsLetters K) []) : Cl P w K mg base 2 "check_letters" (spCheckLetters K) [] := by
  refine cl_of D sc_check_letters (len_sp fun ds ⟨d, h, _⟩ => by rw [h]; rfl) (fun _ _ _ _ _ _ us hl => match us, hl with | [_], _ => rfl) fun f cdv A outer s H vs Q E hr h => ?_
  obtain ⟨ds, hd, ⟨d, rfl, ht, hk⟩, q⟩ := h
  obtain ⟨v, rfl, h0⟩ := dp1 hd
  refine ⟨_, pss_one (ps_if (pt_not (pt_val (C8.pe_c C1 hr (by decide) (by rfl) (pa_cons (pv 0) pa_nil)))) pss_never pss_nil), ?_⟩
  exact Evl.s_if (b := !(isLettersD d)) (Evl.et_not (t_ofB (d_call (ds_cons (d_var ⟨_, rfl, h0⟩) ds_nil) ⟨d, rfl, ht⟩))) (fun hb1 => by rw [hk] at hb1; cases hb1) fun _ H1 e1 => q .non H1 e1 .non
theorem sc_check_text : FnScope ["letters", "text"] ["letters", "text"] (defScope sCheckText) := ⟨rfl, rfl, rfl, by decide +kernel, rfl, by decide +kernel, by decide +kernel⟩
abbrev spCheckText (K : PySem.W.Frag) : Sp := spP K (fun ds => ∃ y d, ds = [.str y, d] ∧ Tx d ∧ withinD y 40 d = true) non1
theorem c_check_text (D : Df K mg "check_text" sCheckText) (g40 : Gn mg "LONGEST_TEXT" 40) (C1 : Cl P w K mg base 2 "is_text_within" (spIsTextWithin K) []) : Cl P w K mg base 3 "check_text" (spCheckText K) [] := by
  refine cl_of D sc_check_text (len_sp fun ds ⟨y, d, h, _⟩ => by rw [h]; rfl) (fun _ _ _ _ _ _ us hl => match us, hl with | [_, _], _ => rfl) fun f cdv A outer s H vs Q E hr h => ?_
  obtain ⟨ds, hd, ⟨y, d, rfl, ht, hk⟩, q⟩ := h
  obtain ⟨v, v2, rfl, h0, h1⟩ := dp2 hd
  refine ⟨_, pss_one (ps_if (pt_not (pt_val (C8.pe_c C1 hr (by decide) (by rfl) (pa_cons (pv 0) (pa_cons (pv 1) (pa_cons (pe_gn g40) pa_nil)))))) pss_never pss_nil), ?_⟩
  exact Evl.s_if (b := !(withinD y 40 d)) (Evl.et_not (t_ofB (d_call (ds_cons (d_var ⟨_, rfl, h0⟩) (ds_cons (d_var ⟨_, rfl, h1⟩) (ds_cons d_int ds_nil))) ⟨y, d, 40, rfl, ht⟩))) (fun hb1 => by rw [hk] at hb1; cases hb1) fun _ H1 e1 => q .non H1 e1 .non
theorem sc_check_kinds : FnScope ["letters", "kinds"] ["letters", "kinds"] (defScope sCheckKinds) := ⟨rfl, rfl, rfl, by decide +kernel, rfl, by decide +kernel, by decide +kernel⟩
abbrev spCheckKinds (K : PySem.W.Frag) : Sp := spP K (fun ds => ∃ y d, ds = [.str y, d] ∧ TxL d ∧ lotD y d = true) non1
theorem c_check_kinds (D : Df K mg "check_kinds" sCheckKinds) (C1 : Cl P w K mg base 4 "is_lot" (spIsLot K) []) : Cl P w K mg base 5 "check_kinds" (spCheckKinds K) [] := by
  refine cl_of D sc_check_kinds (len_sp fun ds ⟨y, d, h, _⟩ => by rw [h]; rfl) (fun _ _ _ _ _ _ us hl => match us, hl with | [_, _], _ => rfl) fun f cdv A outer s H vs Q E hr h => ?_
  obtain ⟨ds, hd, ⟨y, d, rfl, ht, hk⟩, q⟩ := h
  obtain ⟨v, v2, rfl, h0, h1⟩ := dp2 hd
  refine ⟨_, pss_one (ps_if (pt_not (pt_val (C8.pe_c C1 hr (by decide) (by rfl) (pa_cons (pv 0) (pa_cons (pv 1) pa_nil))))) pss_never pss_nil), ?_⟩
  exact Evl.s_if (b := !(lotD y d)) (Evl.et_not (t_ofB (d_call (ds_cons (d_var ⟨_, rfl, h0⟩) (ds_cons (d_var ⟨_, rfl, h1⟩) ds_nil)) ⟨y, d, rfl, ht⟩))) (fun hb1 => by rw [hk] at hb1; cases hb1) fun _ H1 e1 => q .non H1 e1 .non
/-- letters, kinds, a text, as they should be -/
def Okay (l k t : PyData) : Prop := ∃ (y z : Str) (ps : List (Str × Str)), l = .str y ∧ k = .tuple (ps.map kD) ∧ t = .str z ∧ PyData.strOk y = true ∧ y.length ≤ 40000 ∧ isLetS y = true ∧ z.length ≤ 40 ∧ allIn y z = true ∧ ps.length ≤ 12 ∧ ps.Nodup ∧
  ∀ p ∈ ps, p.1.length ≤ 3 ∧ p.2.length ≤ 1 ∧ allIn y p.1 = true ∧ allIn y p.2 = true ∧ p.1 ≠ p.2
theorem pair_kD (p : Str × Str) : pairOf (kD p) = p := rfl
theorem lot_ok {y : Str} {ps : List (Str × Str)} (h1 : ps.length ≤ 12) (h2 : ps.Nodup) (h3 : ∀ p ∈ ps, p.1.length ≤ 3 ∧ p.2.length ≤ 1 ∧ allIn y p.1 = true ∧ allIn y p.2 = true ∧ p.1 ≠ p.2) : lotD y (.tuple (ps.map kD)) = true := by
  show lotL y (ps.map kD) = true
  unfold lotL
  rw [List.length_map, decide_eq_true h1, Bool.true_and, List.map_map]
  have e : ps.map (pairOf ∘ kD) = ps := (List.map_congr_left fun p _ => pair_kD p).trans (List.map_id' ps)
  rw [e, decide_eq_true h2, Bool.and_true, List.all_map]
  refine List.all_eq_true.mpr fun p hp => ?_
  obtain ⟨a, b, c, d, n⟩ := h3 p hp
  show ((withinS y p.1 3 && withinS y p.2 1) && !decide (p.1 = p.2)) = true
  unfold withinS
  rw [c, d, decide_eq_false n, decide_eq_true (by omega : (p.1.length : Int) ≤ 3), decide_eq_true (by omega : (p.2.length : Int) ≤ 1)]
  rfl
theorem tx_kinds {ps : List (Str × Str)} (h3 : ∀ p ∈ ps, p.1.length ≤ 3 ∧ p.2.length ≤ 1) : TxL (.tuple (ps.map kD)) := fun ds e d hd es e2 u hu => by
  cases e
  obtain ⟨p, hp, rfl⟩ := List.mem_map.mp hd
  have z := h3 p hp
  cases e2
  intro x hx
  rcases List.mem_cons.mp hu with rfl | hu
  · cases hx
    omega
  · rcases List.mem_cons.mp hu with rfl | hu
    · cases hx
      omega
    · cases hu
theorem sc_check_deeds_of : FnScope ["letters", "kinds", "text"] ["letters", "kinds", "text"] (defScope sCheckDeedsOf) := ⟨rfl, rfl, rfl, by decide +kernel, rfl, by decide +kernel, by decide +kernel⟩
abbrev spCheckDeedsOf (K : PySem.W.Frag) : Sp := spP K (fun ds => ∃ l k t, ds = [l, k, t] ∧ Okay l k t) non1
theorem c_check_deeds_of (D : Df K mg "check_deeds_of" sCheckDeedsOf) (C1 : Cl P w K mg base 2 "check_letters" (spCheckLetters K) []) (C2 : Cl P w K mg base 5 "check_kinds" (spCheckKinds K) []) (C3 : Cl P w K mg base 3 "check_text" (spCheckText K) []) : Cl P w K mg base 6 "check_deeds_of" (spCheckDeedsOf K) [] := by
  refine cl_of D sc_check_deeds_of (len_sp fun ds ⟨l, k, t, h, _⟩ => by rw [h]; rfl) (fun _ _ _ _ _ _ us hl => match us, hl with | [_, _, _], _ => rfl) fun f cdv A outer s H vs Q E hr h => ?_
  obtain ⟨ds, hd, ⟨l, k, t, rfl, y, z, ps, rfl, rfl, rfl, o0, o1, o2, o3, o4, o5, o6, o7⟩, q⟩ := h
  obtain ⟨v, v2, v3, rfl, h0, h1, h2⟩ := dp3 hd
  refine ⟨_, pss_cons (ps_expr (C8.pe_c C1 hr (by decide) (by rfl) (pa_cons (pv 0) pa_nil))) (pss_cons (ps_expr (C8.pe_c C2 hr (by decide) (by rfl) (pa_cons (pv 0) (pa_cons (pv 1) pa_nil)))) (pss_one (ps_expr (C8.pe_c C3 hr (by decide) (by rfl) (pa_cons (pv 0) (pa_cons (pv 2) pa_nil)))))), ?_⟩
  have a0 : At K (start ["letters", "kinds", "text"] [v, v2, v3]) H 0 (.str y) := ⟨_, rfl, h0⟩
  have a1 : At K (start ["letters", "kinds", "text"] [v, v2, v3]) H 1 (.tuple (ps.map kD)) := ⟨_, rfl, h1⟩
  have a2 : At K (start ["letters", "kinds", "text"] [v, v2, v3]) H 2 (.str z) := ⟨_, rfl, h2⟩
  refine q_exprD (K := K) (d_call (ds_cons (d_var a0) ds_nil) ⟨.str y, rfl, fun x e => by cases e; exact o1, o2⟩) fun H1 e1 => ?_
  refine q_exprD (K := K) (d_call (ds_cons (d_var (a0.mono e1)) (ds_cons (d_var (a1.mono e1)) ds_nil)) ⟨y, _, rfl, tx_kinds fun p hp => ⟨(o7 p hp).1, (o7 p hp).2.1⟩, lot_ok o5 o6 o7⟩) fun H2 e2 => ?_
  refine s_exprD (K := K) (d_call (ds_cons (d_var ((a0.mono e1).mono e2)) (ds_cons (d_var ((a2.mono e1).mono e2)) ds_nil)) ⟨y, .str z, rfl, fun x e => by cases e; omega, ?_⟩) fun H3 e3 => q .non H3 ((e1.trans e2).trans e3) .non
  show withinS y z 40 = true
  unfold withinS
  rw [o4, decide_eq_true (by omega : (z.length : Int) ≤ 40)]
  rfl
def oT (z : Str) : PyData := .tuple [.int (z.length : Int), .str z]
def ordT : PyData → PyData
  | .str z => oT z
  | _ => .none
abbrev spTextOrder (K : PySem.W.Frag) : Sp := spP K (fun ds => ∃ z, ds = [.str z] ∧ z.length ≤ 40000) (one ordT)
abbrev nKindOrder : List Str := ["kind", "left", "right"]
def oK (p : Str × Str) : PyData := .tuple [oT p.1, oT p.2]
def ordK (d : PyData) : PyData := oK (pairOf d)
abbrev spKindOrder (K : PySem.W.Frag) : Sp := spP K (fun ds => ∃ p : Str × Str, ds = [kD p] ∧ p.1.length ≤ 40000 ∧ p.2.length ≤ 40000) (one ordK)
end
end K27

set_option maxHeartbeats 4000000
set_option autoImplicit false
/-! the order of kinds, sorted and chosen from. -/
namespace K27
open PySem PySem.Spec PyProof.Rows L2 AsSort AsKit PySem.W
theorem len_eqS {a b : Str} (h : a.cps.toList = b.cps.toList) : a = b := PySem.W.str_of_cps h
/-- the flat key of the law's lambda -/
def fK (p : Str × Str) : PyData := .tuple [.int (p.1.length : Int), .str p.1, .int (p.2.length : Int), .str p.2]
theorem toks_oK (p : Str × Str) : keyToks (oK p) = [.inl 1, .inl 1, .inl (p.1.length : Int), .inl 1, .inr p.1.cps.toList, .inl 0, .inl 1, .inl 1, .inl (p.2.length : Int), .inl 1, .inr p.2.cps.toList, .inl 0, .inl 0] := by
  simp [oK, oT, keyToks, keyToksAll]
theorem toks_fK (p : Str × Str) : keyToks (fK p) = [.inl 1, .inl (p.1.length : Int), .inl 1, .inr p.1.cps.toList, .inl 1, .inl (p.2.length : Int), .inl 1, .inr p.2.cps.toList, .inl 0] := by
  simp [fK, keyToks, keyToksAll]
theorem lex_cong {x y : Int ⊕ List Nat} {l m l' m' : List (Int ⊕ List Nat)} (h : lexLt itemOrd l m = lexLt itemOrd l' m') : lexLt itemOrd (x :: l) (y :: m) = lexLt itemOrd (x :: l') (y :: m') := by
  by_cases e : x = y
  · subst e
    exact (lex_self (O := itemOrd) x l m).trans (h.trans (lex_self (O := itemOrd) x l' m').symm)
  · exact (lex_diff (O := itemOrd) e).trans (lex_diff (O := itemOrd) e).symm
theorem lexL {x : Int ⊕ List Nat} {l m l' m' : List (Int ⊕ List Nat)} (h : lexLt itemOrd l m = lexLt itemOrd l' m') : lexLt itemOrd (x :: l) (x :: m) = lexLt itemOrd l' m' := (lex_self (O := itemOrd) x l m).trans h
theorem lexR {x : Int ⊕ List Nat} {l m l' m' : List (Int ⊕ List Nat)} (h : lexLt itemOrd l m = lexLt itemOrd l' m') : lexLt itemOrd l m = lexLt itemOrd (x :: l') (x :: m') := h.trans (lex_self (O := itemOrd) x l' m').symm
theorem lt_same (p q : Str × Str) : dataLt (oK p) (oK q) = dataLt (fK p) (fK q) := by
  unfold dataLt
  rw [toks_oK, toks_oK, toks_fK, toks_fK]
  refine lexL (lex_cong (lex_cong (lex_cong (lex_cong (lexL (lexL ?_))))))
  exact lex_cong (lex_cong (lex_cong (lex_cong (lexL rfl))))
/-- the order of kinds -/
def leO (p q : Str × Str) : Bool := !dataLt (oK q) (oK p)
theorem toks_inj {p q : Str × Str} (h : keyToks (oK p) = keyToks (oK q)) : p = q := by
  rw [toks_oK, toks_oK] at h
  simp only [List.cons.injEq, Sum.inl.injEq, Sum.inr.injEq, true_and, and_true] at h
  exact Prod.ext (len_eqS h.2.1) (len_eqS h.2.2.2)
theorem leO_total (p q : Str × Str) : (leO p q || leO q p) = true := by
  unfold leO
  cases h1 : dataLt (oK q) (oK p) with
  | false => rfl
  | true =>
    cases h2 : dataLt (oK p) (oK q) with
    | false => rfl
    | true =>
      have z : lexLt itemOrd (keyToks (oK p)) (keyToks (oK p)) = true := lex_trans (O := itemOrd) _ _ _ h2 h1
      rw [lex_irrefl (O := itemOrd)] at z
      cases z
theorem leO_anti {p q : Str × Str} (h1 : leO p q = true) (h2 : leO q p = true) : p = q := by
  unfold leO at h1 h2
  exact toks_inj (lex_total (O := itemOrd) _ _ ((Bool.not_eq_true' _).mp h2) ((Bool.not_eq_true' _).mp h1))
theorem leO_trans (p q r : Str × Str) (h1 : leO p q = true) (h2 : leO q r = true) : leO p r = true := by
  unfold leO at h1 h2 ⊢
  rw [Bool.not_eq_true'] at h1 h2 ⊢
  cases h : dataLt (oK r) (oK p) with
  | false => rfl
  | true =>
    cases h3 : dataLt (oK p) (oK q) with
    | true =>
      have z : dataLt (oK r) (oK q) = true := lex_trans (O := itemOrd) _ _ _ h h3
      rw [h2] at z
      cases z
    | false =>
      have e := toks_inj (lex_total (O := itemOrd) _ _ h1 h3)
      rw [e] at h2
      rw [h] at h2
      cases h2
def sortO (ps : List (Str × Str)) : List (Str × Str) := ps.mergeSort leO
theorem sortO_filter (f : Str × Str → Bool) (ps : List (Str × Str)) : (sortO ps).filter f = sortO (ps.filter f) := by
  unfold sortO
  refine List.Perm.eq_of_pairwise (le := fun a b => leO a b = true) (fun a b _ _ h1 h2 => leO_anti h1 h2) ?_ ?_ ?_
  · exact (List.pairwise_mergeSort (le := leO) leO_trans leO_total ps).filter f
  · exact List.pairwise_mergeSort (le := leO) leO_trans leO_total _
  · exact ((List.mergeSort_perm ps leO).filter f).trans (List.mergeSort_perm (ps.filter f) leO).symm
theorem sortD_kinds (ps : List (Str × Str)) : sortD (fun d => one ordK [d]) (ps.map kD) = (sortO ps).map kD := by
  unfold sortD sortO
  refine (List.map_mergeSort fun a _ b _ => ?_).symm
  rw [dataLe_eq]
  rfl
/-- the flat key, by the pair's data -/
def flatK (d : PyData) : PyData := fK (pairOf d)
theorem sortD_flat (ps : List (Str × Str)) : sortD (fun d => one flatK [d]) (ps.map kD) = (sortO ps).map kD := by
  unfold sortD sortO
  refine (List.map_mergeSort fun a _ b _ => ?_).symm
  rw [dataLe_eq]
  show leO a b = !dataLt (fK b) (fK a)
  unfold leO
  rw [lt_same]
/-- does the kind fit the text at p -/
def hitB (t : Str) (p : Nat) (k : Str × Str) : Bool := decide ((t.cps.toList.drop p).take k.1.length = k.1.cps.toList)
theorem hit_cut (t : Str) (p : Nat) (k : Str × Str) : decide (cutS t (some (p : Int)) (some ((p + k.1.length : Nat) : Int)) = k.1) = hitB t p k := by
  unfold hitB
  rw [← cut_mid]
  by_cases h : cutS t (some (p : Int)) (some ((p + k.1.length : Nat) : Int)) = k.1
  · rw [decide_eq_true h, decide_eq_true (by rw [h])]
  · rw [decide_eq_false h, decide_eq_false fun z => h (len_eqS z)]
theorem hit_starts (t : Str) (p : Nat) (k : Str × Str) : Txt.startswith (cutS t (some (p : Int)) none) k.1 = hitB t p k := by
  have e : (cutS t (some (p : Int)) none).cps.toList.length = (cutS t (some (p : Int)) none).length := Array.length_toList
  have e2 : k.1.cps.toList.length = k.1.length := Array.length_toList
  unfold Txt.startswith hitB
  rw [StrLaws.subAt_eq, cut_from, List.drop_zero]
  rw [cut_from] at e
  by_cases h : (t.cps.toList.drop p).take k.1.length = k.1.cps.toList
  · have hl := congrArg List.length h
    rw [List.length_take] at hl
    rw [decide_eq_true h, h]
    have : decide (0 + k.1.length ≤ (cutS t (some (p : Int)) none).length) = true := decide_eq_true (by omega)
    rw [this]
    simp
  · rw [decide_eq_false h]
    have : ((t.cps.toList.drop p).take k.1.length == k.1.cps.toList) = false := by simpa using h
    rw [this, Bool.and_false]
/-- a deed -/
def dD (p : Nat) (k : Str × Str) : PyData := .tuple [.int (p : Int), .str k.1, .str k.2]
def hits (os : List (Str × Str)) (t : Str) (p : Nat) : List PyData := (os.filter (hitB t p)).map (dD p)
def hitsTo (os : List (Str × Str)) (t : Str) (n : Nat) : List PyData := (List.range n).flatMap (hits os t)
theorem hitsTo_succ (os : List (Str × Str)) (t : Str) (n : Nat) : hitsTo os t (n + 1) = hitsTo os t n ++ hits os t n := by
  unfold hitsTo
  rw [List.range_succ, List.flatMap_append]
  simp
/-- all deeds on a text, by the kinds -/
def deedsL (ps : List (Str × Str)) (t : Str) : List PyData := hitsTo (sortO ps) t (t.length + 1)
theorem hits_len (os : List (Str × Str)) (t : Str) (p : Nat) : (hits os t p).length ≤ os.length := by
  unfold hits
  rw [List.length_map]
  exact List.length_filter_le _ _
theorem hitsTo_len (os : List (Str × Str)) (t : Str) : ∀ n, (hitsTo os t n).length ≤ n * os.length
  | 0 => Nat.zero_le _
  | n + 1 => by
    rw [hitsTo_succ, List.length_append]
    have h1 := hitsTo_len os t n
    have h2 := hits_len os t n
    have h3 : (n + 1) * os.length = n * os.length + os.length := Nat.succ_mul _ _
    omega
theorem sortO_len (ps : List (Str × Str)) : (sortO ps).length = ps.length := List.length_mergeSort ..
theorem sortO_mem {ps : List (Str × Str)} {p : Str × Str} : p ∈ sortO ps ↔ p ∈ ps := (List.mergeSort_perm ps leO).mem_iff
theorem imm_dD (p : Nat) (k : Str × Str) : imm (dD p k) = true := rfl
theorem imm_hits (os : List (Str × Str)) (t : Str) (p : Nat) : immAll (hits os t p) = true := immAll_of fun d h => by
  obtain ⟨k, _, rfl⟩ := List.mem_map.mp h
  rfl
theorem imm_hitsTo (os : List (Str × Str)) (t : Str) (n : Nat) : immAll (hitsTo os t n) = true := immAll_of fun d h => by
  obtain ⟨p, _, h2⟩ := List.mem_flatMap.mp h
  exact imm_all (imm_hits os t p) d h2
/-- what sorted asks of the keys -/
theorem oK_alike (p q : Str × Str) : alike (oK p) (oK q) = true := by simp [oK, oT, alike, alikeAll]
theorem fK_alike (p q : Str × Str) : alike (fK p) (fK q) = true := by simp [fK, alike, alikeAll]
theorem oT_alike (p q : Str) : alike (oT p) (oT q) = true := by simp [oT, alike, alikeAll]
end K27

set_option maxHeartbeats 4000000
set_option autoImplicit false
namespace K27
open PySem PySem.Spec PyProof.Rows L2 AsSort AsKit
open Evl (Ex Ev EvT EvA)
section
variable {P : Program} {w : World} {K : PySem.W.Frag} {mg : Str → Option Value} {base : Heap}
abbrev nDeedsOn : List Str := ["kinds", "text", "ordered", "found", "place", "left", "right"]
def pairsOf : PyData → List (Str × Str)
  | .tuple ds => ds.map pairOf
  | _ => []
def dn2 : PyData → PyData → PyData
  | k, .str t => .tuple (deedsL (pairsOf k) t)
  | _, _ => .none
theorem pairs_map (ps : List (Str × Str)) : pairsOf (.tuple (ps.map kD)) = ps := by
  show (ps.map kD).map pairOf = ps
  rw [List.map_map]
  exact (List.map_congr_left fun p _ => pair_kD p).trans (List.map_id' ps)
/-- kinds and a text that deeds_on takes -/
def Kt (k t : PyData) : Prop := ∃ (ps : List (Str × Str)) (z : Str), k = .tuple (ps.map kD) ∧ t = .str z ∧ z.length ≤ 400 ∧ ps.length ≤ 60 ∧ ∀ p ∈ ps, p.1.length ≤ 40 ∧ p.2.length ≤ 40 ∧ PyData.strOk p.1 = true ∧ PyData.strOk p.2 = true
abbrev spDeedsOn (K : PySem.W.Frag) : Sp := spP K (fun ds => ∃ k t, ds = [k, t] ∧ Kt k t) (two dn2)
end
end K27

set_option maxHeartbeats 4000000
set_option autoImplicit false
namespace AsKit
open PySem PySem.Spec PyProof.Rows L2 AsSort
open Evl (Ex Ev EvT EvA)
section
variable {X : Cx}
/-- x in a tuple of data -/
def rInT (K : PySem.W.Frag) : R2 := fun x y H Q => ∃ d ds, Dp K H x d ∧ Dp K H y (.tuple ds) ∧ SeqAt.shaped d = true ∧ PyData.canLayAll0 ds = true ∧ Q (.bl (ds.any fun z => PyData.eqv z d)) H
theorem op_inT (hu : X.A.units + 65 < cLine) : OpR X (compareOp .In) (rInT X.K) := by
  intro pins s σ H x y v u Q I rx ry h
  obtain ⟨d, ds, hd, he, sd, se, q⟩ := h
  obtain ⟨as, r1⟩ := Dp.reads I d x v hd rx
  obtain ⟨bs, r2⟩ := Dp.reads I (.tuple ds) y u he ry
  exact SeqAt.in_tuple_reads r2 r1 se (SeqAt.canLay_of_shaped sd) (room_in_shaped sd hu) ⟨.bl _, H, I, rfl, q⟩
/-- x not in a tuple of data -/
def rNotInT (K : PySem.W.Frag) : R2 := fun x y H Q => ∃ d ds, Dp K H x d ∧ Dp K H y (.tuple ds) ∧ SeqAt.shaped d = true ∧ PyData.canLayAll0 ds = true ∧ Q (.bl (!(ds.any fun z => PyData.eqv z d))) H
theorem op_notInT (hu : X.A.units + 65 < cLine) : OpR X (compareOp .NotIn) (rNotInT X.K) := by
  intro pins s σ H x y v u Q I rx ry h
  obtain ⟨d, ds, hd, he, sd, se, q⟩ := h
  obtain ⟨as, r1⟩ := Dp.reads I d x v hd rx
  obtain ⟨bs, r2⟩ := Dp.reads I (.tuple ds) y u he ry
  exact SeqAt.notIn_tuple_reads r2 r1 se (SeqAt.canLay_of_shaped sd) (room_in_shaped sd hu) ⟨.bl _, H, I, rfl, q⟩
end
section
variable {K : PySem.W.Frag} {σ : L2.St} {H : Hp} {ta tb : TE} {d : PyData} {ds : List PyData}
theorem d_notInT (h : EvD K ta σ H d) (h2 : EvD K tb σ H (.tuple ds)) (sd : SeqAt.shaped d = true) (se : PyData.canLayAll0 ds = true) : EvD K (tOp (rNotInT K) ta tb) σ H (.bool (!(ds.any fun z => PyData.eqv z d))) := fun H1 a Q q =>
  h H1 a _ fun v H2 u hd => h2 H2 (a.trans u) _ fun w H3 y he => ⟨d, ds, dp_ex y hd, he, sd, se, q _ H3 (u.trans y) (.bl _)⟩
theorem d_inT (h : EvD K ta σ H d) (h2 : EvD K tb σ H (.tuple ds)) (sd : SeqAt.shaped d = true) (se : PyData.canLayAll0 ds = true) : EvD K (tOp (rInT K) ta tb) σ H (.bool (ds.any fun z => PyData.eqv z d)) := fun H1 a Q q =>
  h H1 a _ fun v H2 u hd => h2 H2 (a.trans u) _ fun w H3 y he => ⟨d, ds, dp_ex y hd, he, sd, se, q _ H3 (u.trans y) (.bl _)⟩
end
end AsKit
namespace K27
open PySem PySem.Spec PyProof.Rows L2 AsSort AsKit
open Evl (Ex Ev EvT EvA)
section
variable {P : Program} {w : World} {K : PySem.W.Frag} {mg : Str → Option Value} {base : Heap}
abbrev nTextBehind : List Str := ["text", "deed", "place", "left", "right"]
theorem sc_text_behind : FnScope nTextBehind ["text", "deed"] (defScope sTextBehind) := ⟨rfl, rfl, rfl, by decide +kernel, rfl, by decide +kernel, by decide +kernel⟩
def bhS (z : Str) (p : Nat) (k : Str × Str) : Str := (cutS z none (some (p : Int)) ++ k.2) ++ cutS z (some ((p + k.1.length : Nat) : Int)) none
def dOf : PyData → Nat × (Str × Str)
  | .tuple [.int p, .str l, .str r] => (p.toNat, (l, r))
  | _ => (0, ("", ""))
theorem dOf_dD (p : Nat) (k : Str × Str) : dOf (dD p k) = (p, k) := rfl
def bh2 : PyData → PyData → PyData
  | .str z, d => .str (bhS z (dOf d).1 (dOf d).2)
  | _, _ => .none
abbrev spTextBehind (K : PySem.W.Frag) : Sp := spP K (fun ds => ∃ z p k, ds = [.str z, dD p k] ∧ z.length ≤ 40000 ∧ k.1.length ≤ 40 ∧ k.2.length ≤ 40) (two bh2)
theorem c_text_behind (D : Df K mg "text_behind" sTextBehind) (hb : Bl mg) : Cl P w K mg base 1 "text_behind" (spTextBehind K) [] := by
  refine cl_of D sc_text_behind (len_sp fun ds ⟨z, p, k, h, _⟩ => by rw [h]; rfl) (fun _ _ _ _ _ _ us hl => match us, hl with | [_, _], _ => rfl) fun f cdv A outer s H vs Q E hr h => ?_
  obtain ⟨ds, hd, ⟨z, p, k, rfl, hz, hk1, hk2⟩, q⟩ := h
  obtain ⟨v, v2, rfl, h0, h1⟩ := dp2 hd
  refine ⟨_, pss_cons (ps_asg (pv 1) (pg_tup rfl (pgs_cons (pg_name (i := 2) sc_text_behind.nd rfl (.inl rfl)) (pgs_cons (pg_name (i := 3) sc_text_behind.nd rfl (.inl rfl)) (pgs_cons (pg_name (i := 4) sc_text_behind.nd rfl (.inl rfl)) pgs_nil)))))
    (pss_one (ps_ret (pe_op op_add_str (pe_op op_add_str (pe_slice sl_str (pv 0) po_none (po_some (pv 2))) (pv 4)) (pe_slice sl_str (pv 0) (po_some (pe_op op_add (pv 2) (pe_lenS hb (pv 3)))) po_none)))), ?_⟩
  refine ⟨v2, rfl, g_three h1 fun va vb vc ha hb2 hc => ?_⟩
  have c0 : At K ((((start nTextBehind [v, v2]).set 2 (some va)).set 3 (some vb)).set 4 (some vc)) H 0 (.str z) := ⟨_, rfl, h0⟩
  have c2 : At K ((((start nTextBehind [v, v2]).set 2 (some va)).set 3 (some vb)).set 4 (some vc)) H 2 (.int (p : Int)) := ⟨_, rfl, ha⟩
  have c3 : At K ((((start nTextBehind [v, v2]).set 2 (some va)).set 3 (some vb)).set 4 (some vc)) H 3 (.str k.1) := ⟨_, rfl, hb2⟩
  have c4 : At K ((((start nTextBehind [v, v2]).set 2 (some va)).set 3 (some vb)).set 4 (some vc)) H 4 (.str k.2) := ⟨_, rfl, hc⟩
  have l1 := cut_len z none (some (p : Int))
  have l2 := cut_len z (some ((p + k.1.length : Nat) : Int)) none
  refine AsKit.s_ret (K := K) (d_addS (x := cutS z none (some (p : Int)) ++ k.2) (y := cutS z (some ((p + k.1.length : Nat) : Int)) none) (d_addS (d_slS (d_var c0) p_none (p_some (d_var c2)) (by omega)) (d_var c4) (by omega))
    (d_slS (d_var c0) (p_some (d_eqTo (d_arI (g := fun i j => i + j) (d_var c2) (d_lenS (d_var c3) (by omega))) (by rw [Int.natCast_add]))) p_none (by omega)) (by rw [add_len]; omega)) q
abbrev nIsDeed : List Str := ["kinds", "text", "value", "place", "left", "right"]
theorem sc_is_deed_on : FnScope nIsDeed ["kinds", "text", "value"] (defScope sIsDeedOn) := ⟨rfl, rfl, rfl, by decide +kernel, rfl, by decide +kernel, by decide +kernel⟩
def dinD (k : PyData) (t : Str) (d : PyData) : Bool := (deedsL (pairsOf k) t).any fun e => PyData.eqv e d
def deedD (k : PyData) (t : Str) : PyData → Bool
  | .tuple [a, b, c] => isIntD a && dinD k t (.tuple [a, b, c])
  | _ => false
theorem deedD_no {k : PyData} {t : Str} {d : PyData} (h : isD "tuple" d = false) : deedD k t d = false := by
  cases d with
  | tuple z => rw [isD_tup1] at h; cases h
  | _ => rfl
theorem deedD_len {k : PyData} {t : Str} {ds : List PyData} (h : ds.length ≠ 3) : deedD k t (.tuple ds) = false := by
  match ds, h with
  | [], _ => rfl
  | [_], _ => rfl
  | [_, _], _ => rfl
  | [_, _, _], h => exact (h rfl).elim
  | _ :: _ :: _ :: _ :: _, _ => rfl
theorem three_of : ∀ {es : List PyData}, es.length = 3 → ∃ a b c, es = [a, b, c]
  | [a, b, c], _ => ⟨a, b, c, rfl⟩
def ido3 : PyData → PyData → PyData → PyData
  | k, .str t, d => .bool (deedD k t d)
  | _, _, _ => .none
theorem lay_deeds (ps : List (Str × Str)) (t : Str) (hps : ∀ p ∈ ps, PyData.strOk p.1 = true ∧ PyData.strOk p.2 = true) : PyData.canLayAll0 (deedsL ps t) = true := by
  have h : ∀ ds : List PyData, (∀ d ∈ ds, d.canLay0 = true) → PyData.canLayAll0 ds = true := by
    intro ds
    induction ds with
    | nil => intro _; simp [PyData.canLayAll0]
    | cons d ds ih =>
      intro h
      simp [PyData.canLayAll0, h d (List.mem_cons_self ..), ih fun z hz => h z (List.mem_cons_of_mem _ hz)]
  refine h _ fun d hd => ?_
  obtain ⟨p, _, h2⟩ := List.mem_flatMap.mp hd
  obtain ⟨k, hk, rfl⟩ := List.mem_map.mp h2
  have z := hps k (sortO_mem.mp ((List.mem_filter.mp hk).1))
  simp [dD, PyData.canLay0, PyData.canLayAll0, z.1, z.2]
abbrev spIsDeedOn (K : PySem.W.Frag) : Sp := spP K (fun ds => ∃ k t d, ds = [k, t, d] ∧ Kt k t ∧ SeqAt.shaped d = true) (three ido3)
theorem lay_kindsD (ps : List (Str × Str)) (hps : ∀ p ∈ ps, PyData.strOk p.1 = true ∧ PyData.strOk p.2 = true) : PyData.canLayAll0 (ps.map kD) = true := by
  induction ps with
  | nil => simp [PyData.canLayAll0]
  | cons p ps ih =>
    have z := hps p (List.mem_cons_self ..)
    rw [List.map_cons]
    simp [PyData.canLayAll0, ih fun q hq => hps q (List.mem_cons_of_mem _ hq), kD, PyData.canLay0, z.1, z.2]
theorem shaped_tail {a b c : PyData} (h : SeqAt.shaped (.tuple [a, b, c]) = true) : SeqAt.shaped (.tuple [b, c]) = true := by
  have h1 := SeqAt.canLay_of_shaped h
  have h2 := SeqAt.depth_of_shaped h
  unfold SeqAt.shaped
  have e1 : PyData.canLay0 (.tuple [a, b, c]) = (a.canLay0 && PyData.canLay0 (.tuple [b, c])) := by simp [PyData.canLay0, PyData.canLayAll0]
  have e2 : PyData.depth (.tuple [b, c]) ≤ PyData.depth (.tuple [a, b, c]) := by
    simp only [PyData.depth, PyData.depthAll]
    omega
  rw [e1] at h1
  rw [(Bool.and_eq_true_iff.mp h1).2, decide_eq_true (by omega)]
  rfl
theorem eqv_tup (xs ys : List PyData) : PyData.eqv (.tuple xs) (.tuple ys) = PyData.eqvAll xs ys := by rw [PyData.eqv]
theorem eqv_cons (x y : PyData) (xs ys : List PyData) : PyData.eqvAll (x :: xs) (y :: ys) = (PyData.eqv x y && PyData.eqvAll xs ys) := by rw [PyData.eqvAll]
theorem eqv_nil : PyData.eqvAll [] [] = true := by rw [PyData.eqvAll]
theorem eqv_strL {x : Str} {d : PyData} (h : PyData.eqv (.str x) d = true) : d = .str x := by
  cases d with
  | str y =>
    have e : PyData.eqv (.str x) (.str y) = (x == y) := by rw [PyData.eqv]
    rw [e] at h
    rw [eq_of_beq h]
  | _ => rw [PyData.eqv] at h; cases h
theorem eqv_strs (x : Str) : PyData.eqv (.str x) (.str x) = true := by
  have e : PyData.eqv (.str x) (.str x) = (x == x) := by rw [PyData.eqv]
  rw [e]
  exact beq_self_eq_true x
theorem eqv_ints (i j : Int) : PyData.eqv (.int i) (.int j) = (i == j) := by rw [PyData.eqv]
/-- the pair is one of the kinds -/
def memD (ps : List (Str × Str)) (b c : PyData) : Bool := (ps.map kD).any fun z => PyData.eqv z (.tuple [b, c])
theorem memD_pair {ps : List (Str × Str)} {b c : PyData} (h : memD ps b c = true) : ∃ p ∈ ps, b = .str p.1 ∧ c = .str p.2 := by
  obtain ⟨z, hz, e⟩ := List.any_eq_true.mp h
  obtain ⟨p, hp, rfl⟩ := List.mem_map.mp hz
  unfold kD at e
  rw [eqv_tup, eqv_cons, eqv_cons, eqv_nil, Bool.and_true, Bool.and_eq_true] at e
  exact ⟨p, hp, eqv_strL e.1, eqv_strL e.2⟩
theorem memD_iff {ps : List (Str × Str)} {p : Str × Str} : memD ps (.str p.1) (.str p.2) = true ↔ p ∈ ps := by
  constructor
  · intro h
    obtain ⟨q, hq, e1, e2⟩ := memD_pair h
    injection e1 with e1
    injection e2 with e2
    have : q = p := Prod.ext e1.symm e2.symm
    exact this ▸ hq
  · intro h
    refine List.any_eq_true.mpr ⟨kD p, List.mem_map.mpr ⟨p, h, rfl⟩, ?_⟩
    unfold kD
    rw [eqv_tup, eqv_cons, eqv_cons, eqv_nil, eqv_strs, eqv_strs]
    rfl
/-- what the program asks of a triple -/
def tripD (ps : List (Str × Str)) (t : Str) (a b c : PyData) : Bool := match a, b, c with
  | .int p, .str l, .str r => (decide (0 ≤ p) && decide (p ≤ (t.length : Int))) && (memD ps (.str l) (.str r) && hitB t p.toNat (l, r))
  | _, _, _ => false
theorem dinD_trip {ps : List (Str × Str)} {t : Str} {a b c : PyData} : (isIntD a && dinD (.tuple (ps.map kD)) t (.tuple [a, b, c])) = (isIntD a && tripD ps t a b c) := by
  by_cases ha : isIntD a = true
  · obtain ⟨p, rfl⟩ : ∃ p, a = .int p := by
      unfold isIntD at ha
      rw [Bool.and_eq_true] at ha
      have hn : ∀ y ∈ names7, y ≠ "int" → y ≠ "bool" → kitB y "int" = some false := by decide +kernel
      have hbb : isD "bool" (.bool true) = true := by decide +kernel
      cases a with
      | int p => exact ⟨p, rfl⟩
      | bool b => have := ha.2; simp only [isD, tyName] at this hbb; rw [hbb] at this; cases this
      | _ => exact absurd ha.1 (by unfold isD; rw [hn _ (ty7 _) (by show _ ≠ _; simp only [tyName]; decide) (by show _ ≠ _; simp only [tyName]; decide)]; decide)
    rw [ha, Bool.true_and, Bool.true_and]
    unfold dinD
    rw [pairs_map]
    rw [Bool.eq_iff_iff]
    constructor
    · intro h
      obtain ⟨e, he, q⟩ := List.any_eq_true.mp h
      obtain ⟨n, hn, h2⟩ := List.mem_flatMap.mp he
      obtain ⟨k, hk, rfl⟩ := List.mem_map.mp h2
      obtain ⟨k1, k2⟩ := List.mem_filter.mp hk
      have k3 := sortO_mem.mp k1
      have k4 := List.mem_range.mp hn
      unfold dD at q
      rw [eqv_tup, eqv_cons, eqv_cons, eqv_cons, eqv_nil, Bool.and_true, Bool.and_eq_true, Bool.and_eq_true, eqv_ints] at q
      obtain ⟨q1, q2, q3⟩ := q
      have q1 : (n : Int) = p := by simpa using q1
      subst q1
      rw [eqv_strL q2, eqv_strL q3]
      unfold tripD
      simp only [Bool.and_eq_true, decide_eq_true_eq]
      refine ⟨⟨by omega, by omega⟩, memD_iff.mpr k3, ?_⟩
      rw [Int.toNat_natCast]
      exact k2
    · intro h
      unfold tripD at h
      split at h
      · rename_i l r e0
        simp only [Bool.and_eq_true, decide_eq_true_eq] at h
        obtain ⟨⟨h1, h2⟩, h3, h4⟩ := h
        have e0' := e0
        cases e0'
        obtain ⟨n, rfl⟩ := Int.eq_ofNat_of_zero_le h1
        refine List.any_eq_true.mpr ⟨dD n (l, r), List.mem_flatMap.mpr ⟨n, List.mem_range.mpr (by omega), List.mem_map.mpr ⟨(l, r), List.mem_filter.mpr ⟨sortO_mem.mpr (memD_iff (p := (l, r)) |>.mp h3), ?_⟩, rfl⟩⟩, ?_⟩
        · simpa using h4
        · unfold dD
          rw [eqv_tup, eqv_cons, eqv_cons, eqv_cons, eqv_nil, eqv_ints, eqv_strs, eqv_strs]
          simp
      · cases h
  · rw [Bool.not_eq_true] at ha
    rw [ha]
    rfl
theorem isIntD_int {a : PyData} (ha : isIntD a = true) : ∃ p, a = .int p := by
  unfold isIntD at ha
  rw [Bool.and_eq_true] at ha
  have hn : ∀ y ∈ names7, y ≠ "int" → y ≠ "bool" → kitB y "int" = some false := by decide +kernel
  have hbb : isD "bool" (.bool true) = true := by decide +kernel
  cases a with
  | int p => exact ⟨p, rfl⟩
  | bool b => have := ha.2; simp only [isD, tyName] at this hbb; rw [hbb] at this; cases this
  | _ => exact absurd ha.1 (by unfold isD; rw [hn _ (ty7 _) (by show _ ≠ _; simp only [tyName]; decide) (by show _ ≠ _; simp only [tyName]; decide)]; decide)
theorem c_is_deed_on (D : Df K mg "is_deed_on" sIsDeedOn) (hb : Bl mg) (C1 : Cl P w K mg base 1 "is_integer" (spIsInteger K) []) : Cl P w K mg base 6 "is_deed_on" (spIsDeedOn K) [] := by
  refine cl_of D sc_is_deed_on (len_sp fun ds ⟨z, p, k, h, _⟩ => by rw [h]; rfl) (fun _ _ _ _ _ _ us hl => match us, hl with | [_, _, _], _ => rfl) fun f cdv A outer s H vs Q E hr h => ?_
  obtain ⟨ds, hd, ⟨kk, tt, d, rfl, hkt, hsh⟩, q⟩ := h
  obtain ⟨v, v2, v3, rfl, h0, h1, h2⟩ := dp3 hd
  have hu : (A.deeper (envOfC "is_deed_on" (defScope sIsDeedOn) s.heap.objs.size f cdv)).units + 65 < cLine := by have := hr.un; omega
  obtain ⟨ps, t, rfl, rfl, hz, hp, hps⟩ := hkt
  refine ⟨_, pss_cons (ps_if (pw_or (pt_not (pt_val (pe_isi (x := "tuple") (T := "tuple") hb (pv 2)))) (pw_or1 (pt_cmpR op_ne (pe_lenQ hb (pv 2)) pe_int (nomark _)))).pt (pss_one (ps_ret pe_bl)) pss_nil)
    (pss_cons (ps_asg (pv 2) (pg_tup rfl (pgs_cons (pg_name (i := 3) sc_is_deed_on.nd rfl (.inl rfl)) (pgs_cons (pg_name (i := 4) sc_is_deed_on.nd rfl (.inl rfl)) (pgs_cons (pg_name (i := 5) sc_is_deed_on.nd rfl (.inl rfl)) pgs_nil)))))
    (pss_cons (ps_if (pw_or (pt_not (pt_val (C8.pe_c C1 hr (by decide) (by rfl) (pa_cons (pv 3) pa_nil)))) (pw_or (pt_not (pt_chain op_le op_le pe_int (pv 3) (pe_lenS hb (pv 1)))) (pw_or1 (pt_cmpR (op_notInT hu) (pe_tup (pa_cons (pv 4) (pa_cons (pv 5) pa_nil))) (pv 0) rfl)))).pt (pss_one (ps_ret pe_bl)) pss_nil)
    (pss_one (ps_ret (pe_cmpR op_eq (pe_slice sl_str (pv 1) (po_some (pv 3)) (po_some (pe_op op_add (pv 3) (pe_lenS hb (pv 4))))) (pv 4) (nomark _)))))), ?_⟩
  have a2 : At K (start nIsDeed [v, v2, v3]) H 2 d := ⟨_, rfl, h2⟩
  by_cases hs : isD "tuple" d = true
  · obtain ⟨es, rfl⟩ := isD_tup hs
    refine Evl.q_when (b := !(isD "tuple" (.tuple es)) || !decide ((es.length : Int) = 3)) (Evl.et_or (Evl.et_not (t_ofB (d_isD (d_var a2)))) fun _ => t_ofD (d_neI (d_lenT (d_var a2)) d_int)) (fun hb1 H1 e1 => AsKit.s_ret (K := K) d_bl fun u H2 e2 hu => q u H2 (e1.trans e2) ?_) fun hb1 H1 e1 => ?_
    · rw [hs, Bool.not_true, Bool.false_or] at hb1
      have hl : es.length ≠ 3 := fun z => by rw [z] at hb1; cases hb1
      show Dp K H2 u (.bool (deedD _ t (.tuple es)))
      rw [deedD_len hl]
      exact hu
    · rw [hs, Bool.not_true, Bool.false_or] at hb1
      have hl : es.length = 3 := by
        have z := of_decide_eq_true (by simpa using hb1 : decide ((es.length : Int) = 3) = true)
        omega
      obtain ⟨a, b, c, rfl⟩ := three_of hl
      refine ⟨v3, rfl, g_three (dp_ex e1 h2) fun va vb vc ha hb2 hc => ?_⟩
      dsimp only
      have c0 : At K ((((start nIsDeed [v, v2, v3]).set 3 (some va)).set 4 (some vb)).set 5 (some vc)) H1 0 (.tuple (ps.map kD)) := ⟨_, rfl, dp_ex e1 h0⟩
      have c1 : At K ((((start nIsDeed [v, v2, v3]).set 3 (some va)).set 4 (some vb)).set 5 (some vc)) H1 1 (.str t) := ⟨_, rfl, dp_ex e1 h1⟩
      have c3 : At K ((((start nIsDeed [v, v2, v3]).set 3 (some va)).set 4 (some vb)).set 5 (some vc)) H1 3 a := ⟨_, rfl, ha⟩
      have c4 : At K ((((start nIsDeed [v, v2, v3]).set 3 (some va)).set 4 (some vb)).set 5 (some vc)) H1 4 b := ⟨_, rfl, hb2⟩
      have c5 : At K ((((start nIsDeed [v, v2, v3]).set 3 (some va)).set 4 (some vb)).set 5 (some vc)) H1 5 c := ⟨_, rfl, hc⟩
      have fin : ∀ (H3 : Hp) (u : V) (bb : Bool), Ex H1 H3 → bb = (isIntD a && tripD ps t a b c) → Dp K H3 u (.bool bb) → Q u H3 := fun H3 u bb e3 eb hu => by
        refine q u H3 (e1.trans e3) ?_
        show Dp K H3 u (.bool (isIntD a && dinD (.tuple (ps.map kD)) t (.tuple [a, b, c])))
        rw [dinD_trip, ← eb]
        exact hu
      have lk := lay_kindsD ps fun p hp1 => (hps p hp1).2.2
      by_cases ia : isIntD a = true
      · obtain ⟨p, rfl⟩ := isIntD_int ia
        refine Evl.q_when (b := !(isIntD (.int p)) || (!(decide (0 ≤ p) && decide (p ≤ (t.length : Int))) || !(memD ps b c))) (Evl.et_or (Evl.et_not (t_ofB (d_call (ds_cons (d_var c3) ds_nil) rfl))) fun _ => Evl.et_or (Evl.et_not (t_ofD (d_chI (g1 := fun i j => decide (i ≤ j)) (g2 := fun i j => decide (i ≤ j)) d_int (d_var c3) fun _ => d_lenS (d_var c1) (by omega)))) fun _ => t_ofD (d_notInT (d_tup (ds_cons (d_var c4) (ds_cons (d_var c5) ds_nil)) (by show 2 ≤ 100000; decide)) (d_var c0) (shaped_tail hsh) lk)) (fun hb3 H2 e2 => AsKit.s_ret (K := K) d_bl fun u H3 e3 hu => fin H3 u _ (e2.trans e3) ?_ hu) fun hb3 H2 e2 => ?_
        · rw [ia, Bool.not_true, Bool.false_or, Bool.true_and] at *
          symm
          unfold tripD
          split
          · rename_i l r e0
            cases e0
            rw [← Bool.not_and, Bool.not_eq_true'] at hb3
            rw [← Bool.and_assoc, hb3, Bool.false_and]
          · rfl
        · rw [ia, Bool.not_true, Bool.false_or] at hb3
          have z : (decide (0 ≤ p) && decide (p ≤ (t.length : Int))) = true ∧ memD ps b c = true := by simpa using hb3
          obtain ⟨pr, hpr, rfl, rfl⟩ := memD_pair z.2
          obtain ⟨z1, z2⟩ := Bool.and_eq_true_iff.mp z.1
          obtain ⟨n, rfl⟩ := Int.eq_ofNat_of_zero_le (of_decide_eq_true z1)
          have hl1 := (hps pr hpr).1
          refine AsKit.s_ret (K := K) (d_eqS (d_slS (d_var (c1.mono e2)) (p_some (d_var (c3.mono e2))) (p_some (d_eqTo (d_arI (g := fun i j => i + j) (d_var (c3.mono e2)) (d_lenS (d_var (c4.mono e2)) (by omega))) (show PyData.int ((n : Int) + (pr.1.length : Int)) = .int ((n + pr.1.length : Nat) : Int) by rw [Int.natCast_add]))) (by omega)) (d_var (c4.mono e2))) fun u H3 e3 hu => fin H3 u _ (e2.trans e3) ?_ hu
          rw [ia, Bool.true_and]
          show _ = ((decide (0 ≤ (n : Int)) && decide ((n : Int) ≤ (t.length : Int))) && (memD ps (.str pr.1) (.str pr.2) && hitB t (n : Int).toNat (pr.1, pr.2)))
          rw [z.1, z.2, Bool.true_and, Bool.true_and, Int.toNat_natCast]
          exact hit_cut t n pr
      · rw [Bool.not_eq_true] at ia
        refine Evl.q_when (b := !(isIntD a) || false) (Evl.et_or (Evl.et_not (t_ofB (d_call (ds_cons (d_var c3) ds_nil) rfl))) fun h => by rw [ia] at h; cases h) (fun hb3 H2 e2 => AsKit.s_ret (K := K) d_bl fun u H3 e3 hu => fin H3 u _ (e2.trans e3) (by rw [ia]; rfl) hu) fun hb3 => by rw [ia] at hb3; cases hb3
  · have hs : isD "tuple" d = false := by simpa using hs
    refine Evl.q_when (b := !(isD "tuple" d) || false) (Evl.et_or (Evl.et_not (t_ofB (d_isD (d_var a2)))) fun h => by rw [hs] at h; cases h) (fun hb1 H1 e1 => AsKit.s_ret (K := K) d_bl fun u H2 e2 hu => q u H2 (e1.trans e2) ?_) fun hb1 => by rw [hs] at hb1; cases hb1
    show Dp K H2 u (.bool (deedD _ t d))
    rw [deedD_no hs]
    exact hu
theorem strOk_in {y z : Str} (h : PyData.strOk y = true) (h2 : allIn y z = true) : PyData.strOk z = true := by
  unfold PyData.strOk at h ⊢
  unfold allIn at h2
  rw [← Array.all_toList] at h ⊢
  refine List.all_eq_true.mpr fun c hc => ?_
  have hm : c ∈ y.cps.toList := of_decide_eq_true (List.all_eq_true.mp h2 c hc)
  exact List.all_eq_true.mp h c hm
theorem okay_kt {l k t : PyData} (h : Okay l k t) : Kt k t := by
  obtain ⟨y, z, ps, rfl, rfl, rfl, o0, o1, o2, o3, o4, o5, o6, o7⟩ := h
  refine ⟨ps, z, rfl, rfl, by omega, by omega, fun p hp => ?_⟩
  obtain ⟨a, b, c, d, e⟩ := o7 p hp
  exact ⟨by omega, by omega, strOk_in o0 c, strOk_in o0 d⟩
def ds3 : PyData → PyData → PyData → PyData
  | _, k, t => dn2 k t
abbrev spDeeds (K : PySem.W.Frag) : Sp := spP K (fun ds => ∃ l k t, ds = [l, k, t] ∧ Okay l k t) (three ds3)
abbrev nDone : List Str := ["letters", "kinds", "text", "deed", "behind"]
theorem sc_done : FnScope nDone ["letters", "kinds", "text", "deed"] (defScope sDone) := ⟨rfl, rfl, rfl, by decide +kernel, rfl, by decide +kernel, by decide +kernel⟩
def do4 : PyData → PyData → PyData → PyData → PyData
  | _, _, t, d => bh2 t d
/-- a deed that can be done -/
def Deed (k t d : PyData) : Prop := ∃ (ps : List (Str × Str)) (z : Str) (p : Nat) (kk : Str × Str), k = .tuple (ps.map kD) ∧ t = .str z ∧ d = dD p kk ∧ dD p kk ∈ deedsL ps z ∧ kk ∈ ps ∧ (bhS z p kk).length ≤ 40
abbrev spDone (K : PySem.W.Frag) : Sp := spP K (fun ds => ∃ l k t d, ds = [l, k, t, d] ∧ Okay l k t ∧ Deed k t d) (four do4)
theorem c_done (D : Df K mg "done" sDone) (hb : Bl mg) (g40 : Gn mg "LONGEST_TEXT" 40) (C1 : Cl P w K mg base 6 "check_deeds_of" (spCheckDeedsOf K) []) (C2 : Cl P w K mg base 6 "is_deed_on" (spIsDeedOn K) []) (C3 : Cl P w K mg base 1 "text_behind" (spTextBehind K) []) : Cl P w K mg base 7 "done" (spDone K) [] := by
  refine cl_of D sc_done (len_sp fun ds ⟨l, k, t, d, h, _⟩ => by rw [h]; rfl) (fun _ _ _ _ _ _ us hl => match us, hl with | [_, _, _, _], _ => rfl) fun f cdv A outer s H vs Q E hr h => ?_
  obtain ⟨ds, hd, ⟨l, k, t, d, rfl, ho, ps, z, p, kk, rfl, rfl, rfl, hm, hkk, hbl⟩, q⟩ := h
  obtain ⟨v, v2, v3, v4, rfl, h0, h1, h2, h3⟩ := dp4 hd
  have hkt := okay_kt ho
  obtain ⟨ps2, z2, e1, e2, k1, k2, k3⟩ := id hkt
  have eps : ps2 = ps := by
    have := congrArg pairsOf e1
    rw [pairs_map, pairs_map] at this
    exact this.symm
  subst eps
  cases e2
  have kl := k3 kk hkk
  have hsh : SeqAt.shaped (dD p kk) = true := by
    unfold SeqAt.shaped
    simp [dD, PyData.canLay0, PyData.canLayAll0, PyData.depth, PyData.depthAll, kl.2.2.1, kl.2.2.2]
  refine ⟨_, pss_cons (ps_expr (C8.pe_c C1 hr (by decide) (by rfl) (pa_cons (pv 0) (pa_cons (pv 1) (pa_cons (pv 2) pa_nil)))))
    (pss_cons (ps_if (pt_not (pt_val (C8.pe_c C2 hr (by decide) (by rfl) (pa_cons (pv 1) (pa_cons (pv 2) (pa_cons (pv 3) pa_nil)))))) pss_never pss_nil)
    (pss_cons (ps_set (i := 4) sc_done.nd rfl (.inl rfl) (C8.pe_c C3 hr (by decide) (by rfl) (pa_cons (pv 2) (pa_cons (pv 3) pa_nil))))
    (pss_cons (ps_if (pt_cmpR op_gt (pe_lenS hb (pv 4)) (pe_gn g40) (nomark _)) pss_never pss_nil) (pss_one (ps_ret (pv 4)))))), ?_⟩
  have a0 : At K (start nDone [v, v2, v3, v4]) H 0 l := ⟨_, rfl, h0⟩
  have a1 : At K (start nDone [v, v2, v3, v4]) H 1 _ := ⟨_, rfl, h1⟩
  have a2 : At K (start nDone [v, v2, v3, v4]) H 2 _ := ⟨_, rfl, h2⟩
  have a3 : At K (start nDone [v, v2, v3, v4]) H 3 _ := ⟨_, rfl, h3⟩
  refine q_exprD (K := K) (d_call (ds_cons (d_var a0) (ds_cons (d_var a1) (ds_cons (d_var a2) ds_nil))) ⟨_, _, _, rfl, ho⟩) fun H1 e1 => ?_
  have hin : deedD (.tuple (ps2.map kD)) z (dD p kk) = true := by
    show (isIntD (.int (p : Int)) && dinD (.tuple (ps2.map kD)) z (dD p kk)) = true
    rw [show isIntD (.int (p : Int)) = true from (by decide +kernel : ((match kitB "int" "int" with | some b => b | none => false) && !(match kitB "int" "bool" with | some b => b | none => false)) = true), Bool.true_and]
    unfold dinD
    rw [pairs_map]
    exact List.any_eq_true.mpr ⟨_, hm, SeqAt.eqv_refl _ (SeqAt.canLay_of_shaped hsh)⟩
  refine Evl.q_when (b := !(deedD (.tuple (ps2.map kD)) z (dD p kk))) (Evl.et_not (t_ofB (d_call (ds_cons (d_var (a1.mono e1)) (ds_cons (d_var (a2.mono e1)) (ds_cons (d_var (a3.mono e1)) ds_nil))) ⟨_, _, _, rfl, hkt, hsh⟩))) (fun hb1 => by rw [hin] at hb1; cases hb1) fun _ H2 e2 => ?_
  refine AsKit.q_asg (d_call (ds_cons (d_var ((a2.mono e1).mono e2)) (ds_cons (d_var ((a3.mono e1).mono e2)) ds_nil)) ⟨z, p, kk, rfl, by omega, kl.1, kl.2.1⟩) fun u H3 e3 hu => ?_
  have c4 : At K ((start nDone [v, v2, v3, v4]).set 4 (some u)) H3 4 (.str (bhS z p kk)) := ⟨_, rfl, hu⟩
  refine Evl.q_when (b := decide ((40 : Int) < ((bhS z p kk).length : Int))) (t_ofD (d_cmpI (g := fun i j => decide (j < i)) (d_lenS (d_var c4) (by omega)) d_int)) (fun hb1 => by have := of_decide_eq_true hb1; omega) fun _ H4 e4 => ?_
  exact AsKit.s_ret (K := K) (d_var (c4.mono e4)) fun u H5 e5 hu => q u H5 ((((e1.trans e2).trans e3).trans e4).trans e5) hu
end
end K27

set_option maxHeartbeats 4000000
set_option autoImplicit false
/-! dicts whose values are all True: made by a comprehension or key by key; their keys as data. -/
namespace AsKit
open PySem PySem.Spec PyProof.Rows L2 AsSort
open Evl (Ex Ev EvT EvA)
section
variable {X : Cx}
theorem sw_dict {kx vx : Expr} {gs : List Comprehension} {scope : Scope} {pos py : Pos} {y : Str} {l : Nat} {env : Env} (hk : env.scope.kind = .function) (hy : env.scope.names.lookup y = some .local) (hl : (py.line == pos.line) = true)
    (ha : (scope.names.any fun (n, k) => n == y && (k == .local || k == .cell)) = false) : swapsWith (.DictComp kx vx gs scope pos) (some (.Name y py)) l env = pure true := by
  have k1 : env.kindOf y = some .local := hy
  have k2 : env.blockKind = .function := by simp only [Env.blockKind, hk]; rfl
  simp only [swapsWith, k2, k1, ha, Expr.pos, hl]; rfl
theorem ps_setDc {i : Nat} {y : Str} {py : Pos} {kx vx tg iter : Expr} {ifs : List Expr} {scope : Scope} {own : List (Str × Nat)} {pos spos : Pos} {wi : TI} {g : TG} {tt : TT} {tk tv : TE} (hc : X.calm = true) (hN : X.N.Nodup) (hy : X.N[i]? = some y) (hyl : X.env.scope.names.lookup y = some .local)
    (hsw : swapsWith (.DictComp kx vx [⟨tg, iter, ifs, 0⟩] scope pos) (some (.Name y py)) spos.line X.env = pure true) (hi : PI X tg iter wi) (ok : BlkOk X.N X.env.scope scope own)
    (hg : ∀ (s : Shared) (H : Hp) (C : Addr) (cl : List (Str × Addr)) (fp : List Addr), PG (X.blk s H scope (compEnvC scope cl C X.env) fp) tg g) (ht : ∀ (s : Shared) (H : Hp) (C : Addr) (cl : List (Str × Addr)) (fp : List Addr), PTs (X.blk s H scope (compEnvC scope cl C X.env) fp) ifs tt)
    (hk : ∀ (s : Shared) (H : Hp) (C : Addr) (cl : List (Str × Addr)) (fp : List Addr), PE (X.blk s H scope (compEnvC scope cl C X.env) fp) kx tk)
    (he : ∀ (s : Shared) (H : Hp) (C : Addr) (cl : List (Str × Addr)) (fp : List Addr), PE (X.blk s H scope (compEnvC scope cl C X.env) fp) vx tv) (hs : ∀ x, foldedSetIterable iter X.env x = pure x := by intro _; rfl) :
    PS X (.Assign [.Name y py] (.DictComp kx vx [⟨tg, iter, ifs, 0⟩] scope pos) spos) (tAsg (tDc wi g tt tk tv (own.map (·.2))) (gName i)) := by
  refine ⟨fun pins s σ H D I hw => ?_⟩
  rw [exec_Assign_Name_used _ _ _ _ hsw]
  apply wpAny_bind; apply wpAny_standAt; apply wpAny_bind
  show wpAny _ X.A (do let _ ← comprehension (.DictComp kx vx [⟨tg, iter, ifs, 0⟩] scope pos) scope X.env (firstIterPos [⟨tg, iter, ifs, 0⟩] pos) newDict false (eval iter X.env) (some (assign (.Name y py) X.env))) _ _ s
  have hw : tDc wi g tt tk tv (own.map (·.2)) σ H (fun x H1 => gName i x σ H1 D.nx) := hw
  refine wpAny_bind (thn (dc_core (Qf := fun _ s' => SP X pins D .next s') hc hN I hi ok hg ht hk he hs hw fun L C s' m H' J q hn f => ?_) fun _ s' hq => wpAny_pure (wpAny_pure hq))
  show wpAny _ _ (assign (.Name y py) X.env (.ref L)) _ _ _
  refine wpAny_assign_Name (store_ok2 (v := V.ref L) J hN hy (.inl hyl) rfl (fun s2 J2 ⟨a, sb, ha⟩ => ?_) (.inr hyl))
  obtain ⟨f0, f1, f2, f3, f4, f5⟩ := f
  have ne : C ≠ a := ha.elim (fun z => by rw [z]; exact f1) fun z e => f4 y a z e.symm
  exact ⟨m, hn.sameBut sb ne, fun h3 sb3 => ⟨_, H', J2.turned (t' := s2.toks) (fun b o hb e => (sb3.2 b hb).trans e) f0 f1 f3 f4 f5, q⟩⟩
end
abbrev Kvs := List (Key × V)
def putT (kvs : Kvs) (s : Str) : Kvs := putK kvs (.inr s) (.bl true)
def putsT (ss : List Str) : Kvs := ss.foldl putT []
theorem putsT_snoc (ss : List Str) (s : Str) : putsT (ss ++ [s]) = putT (putsT ss) s := by
  unfold putsT
  rw [List.foldl_append]
  rfl
theorem putT_len (kvs : Kvs) (s : Str) : (putT kvs s).length ≤ kvs.length + 1 := length_putK kvs _ _
theorem putT_mem {kvs : Kvs} {s : Str} {kv : Key × V} (h : kv ∈ putT kvs s) : kv.1 = .inr s ∨ ∃ kw ∈ kvs, kw.1 = kv.1 := by
  unfold putT putK at h
  split at h
  · obtain ⟨kw, h1, h2⟩ := List.mem_map.mp h
    split at h2
    · rw [← h2]
      exact .inr ⟨kw, h1, rfl⟩
    · rw [← h2]
      exact .inr ⟨kw, h1, rfl⟩
  · rcases List.mem_append.mp h with h | h
    · exact .inr ⟨kv, h, rfl⟩
    · rw [List.mem_singleton.mp h]
      exact .inl rfl
/-- all keys are texts of ss -/
def KeysIn (ss : List Str) (kvs : Kvs) : Prop := ∀ kv ∈ kvs, ∃ s ∈ ss, kv.1 = .inr s
theorem fold_in (ss : List Str) : ∀ (ts : List Str) (kvs : Kvs), (∀ t ∈ ts, t ∈ ss) → KeysIn ss kvs → KeysIn ss (ts.foldl putT kvs)
  | [], _, _, h => h
  | t :: ts, kvs, ht, h => fold_in ss ts (putT kvs t) (fun u hu => ht u (List.mem_cons_of_mem _ hu)) fun kv hkv => by
    rcases putT_mem hkv with e | ⟨kw, h1, h2⟩
    · exact ⟨t, ht t (List.mem_cons_self ..), e⟩
    · obtain ⟨s, hs, e⟩ := h kw h1
      exact ⟨s, hs, h2 ▸ e⟩
theorem putsT_in (ss : List Str) : KeysIn ss (putsT ss) := fold_in ss ss [] (fun _ h => h) fun _ h => nomatch h
theorem fold_len : ∀ (ts : List Str) (kvs : Kvs), (ts.foldl putT kvs).length ≤ kvs.length + ts.length
  | [], _ => Nat.le_refl _
  | t :: ts, kvs => by
    have h1 := fold_len ts (putT kvs t)
    have h2 := putT_len kvs t
    show (ts.foldl putT (putT kvs t)).length ≤ kvs.length + (ts.length + 1)
    omega
theorem putsT_len (ss : List Str) : (putsT ss).length ≤ ss.length := by
  exact Nat.le_trans (fold_len ss []) (Nat.le_of_eq (Nat.zero_add _))
def keyS : Key → Str
  | .inr s => s
  | .inl _ => ""
def strsOf (kvs : Kvs) : List Str := kvs.map fun kv => keyS kv.1
theorem keyS_of {ss : List Str} {kvs : Kvs} (h : KeysIn ss kvs) {kv : Key × V} (hkv : kv ∈ kvs) : kV kv.1 = .str (keyS kv.1) ∧ keyS kv.1 ∈ ss := by
  obtain ⟨s, hs, e⟩ := h kv hkv
  rw [e]
  exact ⟨rfl, hs⟩
theorem strs_in {ss : List Str} {kvs : Kvs} (h : KeysIn ss kvs) : ∀ s ∈ strsOf kvs, s ∈ ss := fun s hs => by
  obtain ⟨kv, h1, rfl⟩ := List.mem_map.mp hs
  exact (keyS_of h h1).2
theorem keysV {ss : List Str} {kvs : Kvs} (h : KeysIn ss kvs) : (kvs.map fun kv => kV kv.1) = (strsOf kvs).map V.str := by
  unfold strsOf
  rw [List.map_map]
  exact List.map_congr_left fun kv hkv => (keyS_of h hkv).1
theorem dp_strs {K : PySem.W.Frag} {H : Hp} : ∀ ss : List Str, DpAll K H (ss.map V.str) (ss.map PyData.str)
  | [] => .nil
  | s :: ss => .cons (.str s) (dp_strs ss)
theorem lc_keys {d : Addr} {o : Obj} {kvs : Kvs} {g : TG} {tt : TT} {te : TE} {vs : List Nat} {σ : L2.St} {H1 : Hp} {D : Addr} {Qd : Hp → Prop} (Pv : Nat → Hp → Prop) (h0 : Pv 0 (upd H1 D (.lst []))) (hl : ∀ i H, Pv i H → H d = some (.frz o (.dK kvs)))
    (hs : ∀ i k v H, kvs[i]? = some (k, v) → Pv i H → g (kV k) (wipe σ vs) H fun σ2 H2 => wipe σ2 vs = wipe σ vs ∧ tt σ2 H2 fun b H3 =>
      if b = true then te σ2 H3 fun y H4 => ∃ acc, H4 D = some (.lst acc) ∧ acc.length < sizeLine ∧ Pv (i + 1) (upd H4 D (.lst (acc ++ [y]))) else Pv (i + 1) H3) (hd : ∀ H, Pv kvs.length H → Qd H) :
    ∃ W : Nat → Nat → Hp → Prop, (∃ m, W 0 m (upd H1 D (.lst []))) ∧ ∀ i m H, W i m H →
      ((Itk d o kvs).stop i H ∧ Qd H) ∨ ((Itk d o kvs).go i H ∧ ∃ Nx : Hp → Prop, (∀ H', Nx H' → ∃ m', m' < m ∧ W (i + 1) m' H') ∧ ∀ x H', (Itk d o kvs).yld i H x H' → g x (wipe σ vs) H' fun σ2 H2 => wipe σ2 vs = wipe σ vs ∧ tt σ2 H2 fun b H3 =>
        if b = true then te σ2 H3 fun y H4 => ∃ acc, H4 D = some (.lst acc) ∧ acc.length < sizeLine ∧ Nx (upd H4 D (.lst (acc ++ [y]))) else Nx H3) := by
  refine ⟨fun i m H => m = kvs.length - i ∧ i ≤ kvs.length ∧ Pv i H, ⟨kvs.length, by simp, Nat.zero_le _, h0⟩, ?_⟩
  rintro i m H ⟨rfl, hi, p⟩
  have q := hl i H p
  by_cases hlt : i < kvs.length
  · refine .inr ⟨⟨q, hlt⟩, Pv (i + 1), fun H' p' => ⟨kvs.length - (i + 1), by omega, rfl, hlt, p'⟩, fun x H' z => ?_⟩
    obtain ⟨e, k, v, hc, rfl⟩ := z
    subst e
    exact hs i k v _ hc p
  · have e : i = kvs.length := by omega
    subst e
    exact .inl ⟨⟨q, Nat.le_refl _⟩, hd H p⟩
section
variable {K : PySem.W.Frag} {σ : L2.St} {H : Hp} {te tl tk : TE}
/-- [e for x in d], d a dict of texts -/
theorem d_lcK {i j : Nat} {d : Addr} {kvs : Kvs} {ss : List Str} (g : Str → PyData) (hσ : σ[i]? = some (some (.ref d))) (hd : H d = some (.dK kvs)) (hk : KeysIn ss kvs) (hz : kvs.length ≤ 50000) (hw : ∀ x, wipe ((wipe σ [j]).set j (some x)) [j] = wipe σ [j]) (him : ∀ s ∈ ss, imm (g s) = true)
    (ht : ∀ s ∈ ss, ∀ H1, EvD K te ((wipe σ [j]).set j (some (.str s))) H1 (g s)) : EvD K (tLockE (tLc (iKeys (tVar i)) (gName j) tYes te [j])) σ H (.list ((strsOf kvs).map g)) := fun H1 a Q q => by
  have hd1 : H1 d = some (.dK kvs) := a _ _ hd
  refine ⟨d, .dK kvs, hd1, True.intro, fun od => ?_⟩
  obtain ⟨G, eG⟩ : ∃ G, G = upd H1 d (.frz od (.dK kvs)) := ⟨_, rfl⟩
  have gd : G d = some (.frz od (.dK kvs)) := by rw [eG, upd_same]
  rw [← eG]
  refine ⟨_, hσ, d, od, rfl, .inl ⟨kvs, gd, fun D hD => ?_⟩⟩
  have hDd : D ≠ d := fun e => by rw [e, gd] at hD; cases hD
  let ds : List PyData := (strsOf kvs).map PyData.str
  let g' : PyData → PyData := fun x => match x with | .str s => g s | _ => .none
  have hl : ds.length = kvs.length := by show ((strsOf kvs).map PyData.str).length = _; unfold strsOf; rw [List.length_map, List.length_map]
  have him' : ∀ x ∈ ds, (fun _ => true) x = true → imm (g' x) = true := fun x hx _ => by
    obtain ⟨s, hs, rfl⟩ := List.mem_map.mp hx
    exact him s (strs_in hk s hs)
  refine lc_keys (Cd K G ds (fun _ => true) g' D) (cd_start hD) (fun i H' p => p.2.1 _ _ gd) (fun i k v H' hi p => ?_) fun H' p => ?_
  · have hm : (k, v) ∈ kvs := List.mem_of_getElem? hi
    have hks := keyS_of hk hm
    have hks1 : kV k = .str (keyS k) := hks.1
    have hds : ds[i]? = some (.str (keyS k)) := by show ((strsOf kvs).map PyData.str)[i]? = _; unfold strsOf; rw [List.getElem?_map, List.getElem?_map, hi]; rfl
    rw [hks1]
    exact ⟨hw _, cd_turn him' p hds (by omega) (fun H3 _ Q q => q H3 (Ex.refl H3)) fun _ => ht _ hks.2 _⟩
  · have z := cd_end2 hl p
    obtain ⟨z1, z2⟩ := z
    have e : (ds.filter fun _ => true).map g' = (strsOf kvs).map g := by
      rw [List.filter_eq_self.mpr fun _ _ => rfl]
      show ((strsOf kvs).map PyData.str).map g' = _
      rw [List.map_map]
      rfl
    rw [e] at z2
    obtain ⟨p1, p2, acc, p3, p4⟩ := p
    have p5 : DpAll K H' acc ((strsOf kvs).map g) := by
      rw [← e]
      rw [List.take_of_length_le (by omega)] at p4
      exact p4
    refine ⟨z1 _ _ gd, q _ _ (fun b o hb => ?_) (.lst (Evl.sq_of ((upd_ne hDd).trans p3)) (dpAll_tu (tu_rd fun b xs h => ?_) (immAll_of fun x hx => ?_) p5))⟩
    · by_cases hbd : b = d
      · rw [hbd, upd_same]
        rw [hbd, hd1] at hb
        exact hb
      · rw [upd_ne hbd]
        exact z1 b o (by rw [eG, upd_ne hbd]; exact hb)
    · have hbd : b ≠ d := fun w => by
        rw [w] at h
        have y := z1 _ _ gd
        rcases h with h | ⟨o, h⟩
        · rw [y] at h; cases h
        · rw [y] at h; cases h
      rcases h with h | ⟨o, h⟩
      · exact .inl ((upd_ne hbd).trans h)
      · exact .inr ⟨o, (upd_ne hbd).trans h⟩
    · obtain ⟨s, hs, rfl⟩ := List.mem_map.mp hx
      exact him s (strs_in hk s hs)
/-- list(d) -/
theorem d_listD {d : Addr} {kvs : Kvs} {ss : List Str} {i : Nat} (hσ : σ[i]? = some (some (.ref d))) (hd : H d = some (.dK kvs)) (hk : KeysIn ss kvs) : EvD K (tCB rListD (tCons (tVar i) tNil)) σ H (.list ((strsOf kvs).map PyData.str)) := fun H1 a Q q =>
  ⟨_, hσ, d, kvs, rfl, a _ _ hd, fun p hp => q _ _ (Ex.new hp) (.lst (Evl.sq_of upd_same) (by rw [keysV hk]; exact dp_strs _))⟩
/-- {e: True for x in t} -/
theorem e_dcT {j : Nat} {ds : List PyData} (g : PyData → Str) (h : EvD K tl σ H (.tuple ds)) (hz : ds.length ≤ 50000) (hw : ∀ x, wipe ((wipe σ [j]).set j (some x)) [j] = wipe σ [j])
    (ht : ∀ d ∈ ds, ∀ x H1, Ex H H1 → Dp K H1 x d → EvD K tk ((wipe σ [j]).set j (some x)) H1 (.str (g d))) (H1 : Hp) (a : Ex H H1) (Q : VK) (q : ∀ p H2, H1 p = none → Ex H1 H2 → H2 p = some (.dK (putsT (ds.map g))) → Q (.ref p) H2) :
    tDc (iTup K tl) (gName j) tYes tk (tC (.bl true)) [j] σ H1 Q := h H1 a _ fun v H2 x hd => by
  cases hd with
  | tup hs hx =>
    refine ⟨_, rfl, ⟨_, hs⟩, fun D hD => dc_tup (fun i H' => Ex H2 H' ∧ H' D = some (.dK (putsT ((ds.take i).map g)))) ⟨Ex.new hD, upd_same⟩ (fun i H' _ p => Evl.ex_t p.1 hs) (fun i y H' hi p => ?_) fun H' p => ?_⟩
    · have hi2 : i < ds.length := by rw [← dpAll_len hx]; exact (List.getElem?_eq_some_iff.mp hi).1
      have hd : ds[i]? = some ds[i] := List.getElem?_eq_getElem hi2
      refine ⟨hw y, ?_⟩
      show tk _ H' fun y H4 => _
      refine ht ds[i] (List.getElem_mem hi2) y H' (a.trans (x.trans p.1)) (dp_ex p.1 (dpAll_get hx hi hd)) H' (Ex.refl H') _ fun u H4 e4 hu => ?_
      cases hu
      have hp4 := e4 _ _ p.2
      have hl : (putsT ((ds.take i).map g)).length ≤ 50000 := by
        have h1 := putsT_len ((ds.take i).map g)
        have h2 := List.length_take_le' i ds
        rw [List.length_map] at h1
        omega
      refine ⟨_, .inr (g ds[i]), rfl, hp4, Evl.sz_lt (by omega), Ex.mut (p.1.trans e4) hD, ?_⟩
      rw [upd_same, List.take_add_one, hd]
      show _ = some (HO.dK (putsT ((ds.take i ++ [ds[i]]).map g)))
      rw [List.map_append, List.map_singleton, putsT_snoc]
      rfl
    · rw [dpAll_len hx, List.take_length] at p
      exact q D H' (Evl.fresh_back x hD) (x.trans p.1) p.2
theorem q_dcT {D : Ends} {tz : TS} {i j : Nat} {vs : List Nat} {ds : List PyData} (g : PyData → Str) (hvs : vs = [j]) (h : EvD K tl σ H (.tuple ds)) (hz : ds.length ≤ 50000) (hw : ∀ x, wipe ((wipe σ [j]).set j (some x)) [j] = wipe σ [j])
    (ht : ∀ d ∈ ds, ∀ x H1, Ex H H1 → Dp K H1 x d → EvD K tk ((wipe σ [j]).set j (some x)) H1 (.str (g d))) (q : ∀ p H2, H p = none → Ex H H2 → H2 p = some (.dK (putsT (ds.map g))) → tz D (σ.set i (some (.ref p))) H2) :
    tSeq (tAsg (tDc (iTup K tl) (gName j) tYes tk (tC (.bl true)) vs) (gName i)) tz D σ H := by
  subst hvs
  exact e_dcT g h hz hw ht H (Ex.refl H) (fun x H1 => gName i x σ H1 fun σ2 H2 => tz D σ2 H2) q
end
end AsKit

set_option maxHeartbeats 4000000
set_option autoImplicit false
namespace AsKit
open PySem PySem.Spec PyProof.Rows L2 AsSort
open Evl (Ex Ev EvT EvA)
section
variable {K : PySem.W.Frag} {σ : L2.St} {H : Hp} {te : TE} {ds : List PyData}
/-- sorted(xs, key=f) -/
theorem d_sortL {f : Addr} {pre : List PyData → Prop} {g : List PyData → PyData} (h : EvD K te σ H (.list ds)) (hp : ∀ d ∈ ds, pre [d]) (ha : PySem.W.AllAlike (ds.map fun d => g [d])) (hs : PySem.W.Sortable (ds.map fun d => g [d])) (hi : immAll (ds.map fun d => g [d]) = true) (hd : ∀ d ∈ ds, (g [d]).depth ≤ 50) :
    EvD K (tCKw (rSortKey K f pre g) (tCons te tNil) (tCons (tC (.ref f)) tNil)) σ H (.list (sortD (fun d => g [d]) ds)) := fun H1 a Q q =>
  h H1 a _ fun v H2 x hv => by
    cases hv with
    | lst hq hx => exact ⟨_, _, ds, rfl, rfl, .inl hq, hx, hp, ha, hs, hi, hd, fun p ys G np e hG hys => q _ G (x.trans e) (.lst (Evl.sq_of hG) hys)⟩
end
end AsKit
namespace K27
open PySem PySem.Spec PyProof.Rows L2 AsSort AsKit
open Evl (Ex Ev EvT EvA)
section
variable {P : Program} {w : World} {K : PySem.W.Frag} {mg : Str → Option Value} {base : Heap}
abbrev nCopies : List Str := ["letters", "kinds", "text", "behind", "deed", "copy"]
/-- the texts behind all deeds -/
def behinds (ps : List (Str × Str)) (z : Str) : List Str := (deedsL ps z).map fun d => bhS z (dOf d).1 (dOf d).2
def copiesL (ps : List (Str × Str)) (z : Str) : List PyData := sortD (fun d => one ordT [d]) ((strsOf (putsT (behinds ps z))).map PyData.str)
def cp3 : PyData → PyData → PyData → PyData
  | _, k, .str z => .tuple (copiesL (pairsOf k) z)
  | _, _, _ => .none
theorem deeds_mem {ps : List (Str × Str)} {z : Str} {d : PyData} (h : d ∈ deedsL ps z) : ∃ p kk, d = dD p kk ∧ kk ∈ ps ∧ p ≤ z.length := by
  obtain ⟨p, h1, h2⟩ := List.mem_flatMap.mp h
  obtain ⟨k, hk, rfl⟩ := List.mem_map.mp h2
  exact ⟨p, k, rfl, sortO_mem.mp (List.mem_filter.mp hk).1, Nat.lt_succ_iff.mp (List.mem_range.mp h1)⟩
theorem deedsL_len {ps : List (Str × Str)} {z : Str} (h1 : z.length ≤ 400) (h2 : ps.length ≤ 60) : (deedsL ps z).length ≤ 30000 := by
  have l1 := hitsTo_len (sortO ps) z (z.length + 1)
  have l2 := sortO_len ps
  have l3 : (z.length + 1) * (sortO ps).length ≤ 401 * 60 := Nat.mul_le_mul (by omega) (by omega)
  unfold deedsL
  omega
/-- sorted texts: what is asked -/
theorem ordT_ok (ss : List Str) (h : ∀ s ∈ ss, s.length ≤ 40000) : (∀ d ∈ ss.map PyData.str, ∃ z, [d] = [PyData.str z] ∧ z.length ≤ 40000) ∧ PySem.W.AllAlike ((ss.map PyData.str).map fun d => one ordT [d]) ∧ PySem.W.Sortable ((ss.map PyData.str).map fun d => one ordT [d]) ∧
    immAll ((ss.map PyData.str).map fun d => one ordT [d]) = true ∧ ∀ d ∈ ss.map PyData.str, (one ordT [d]).depth ≤ 50 := by
  have hm : ∀ d ∈ (ss.map PyData.str).map fun d => one ordT [d], ∃ s, d = oT s := fun d hd => by
    obtain ⟨x, hx, rfl⟩ := List.mem_map.mp hd
    obtain ⟨s, hs, rfl⟩ := List.mem_map.mp hx
    exact ⟨s, rfl⟩
  refine ⟨fun d hd => ?_, fun d hd d' hd' => ?_, .inl fun d hd => ?_, immAll_of fun d hd => ?_, fun d hd => ?_⟩
  · obtain ⟨s, hs, rfl⟩ := List.mem_map.mp hd
    exact ⟨s, rfl, h s hs⟩
  · obtain ⟨x, rfl⟩ := hm d hd
    obtain ⟨y, rfl⟩ := hm d' hd'
    exact oT_alike x y
  · obtain ⟨x, rfl⟩ := hm d hd
    exact ⟨_, _, rfl⟩
  · obtain ⟨x, rfl⟩ := hm d hd
    rfl
  · obtain ⟨s, hs, rfl⟩ := List.mem_map.mp hd
    show (oT s).depth ≤ 50
    simp [oT, PyData.depth, PyData.depthAll]
abbrev spCopies (K : PySem.W.Frag) : Sp := spP K (fun ds => ∃ l k t, ds = [l, k, t] ∧ Okay l k t ∧ ∃ ps z, k = .tuple (ps.map kD) ∧ t = .str z ∧ ∀ s ∈ behinds ps z, s.length ≤ 40) (three cp3)
end
end K27

set_option maxHeartbeats 4000000
set_option autoImplicit false
namespace K27
open PySem PySem.Spec PyProof.Rows L2 AsSort AsKit
open Evl (Ex Ev EvT EvA)
abbrev sTaken : Stmt := top 56
abbrev sPick : Stmt := top 57
abbrev sLetters : Stmt := top 59
abbrev sText : Stmt := top 60
abbrev sKinds : Stmt := top 61
abbrev sDeedsL : Stmt := top 65
abbrev sLaw : Stmt := top 70
section
variable {P : Program} {w : World} {K : PySem.W.Frag} {mg : Str → Option Value} {base : Heap}
/-- all but r is as it was -/
def Bt (r : Addr) (H H' : Hp) : Prop := ∀ x o, x ≠ r → H x = some o → H' x = some o
theorem Bt.refl (r : Addr) (H : Hp) : Bt r H H := fun _ _ _ h => h
theorem Bt.trans {r : Addr} {H H1 H2 : Hp} (a : Bt r H H1) (b : Bt r H1 H2) : Bt r H H2 := fun x o n h => b x o n (a x o n h)
theorem bt_ex {r : Addr} {H H1 : Hp} (e : Ex H H1) : Bt r H H1 := fun x o _ h => e x o h
theorem bt_upd {r : Addr} {H : Hp} {o : HO} : Bt r H (upd H r o) := fun x u n h => (upd_ne n).trans h
/-- the row of the law: the script, how far, the drawn number, what is left of a great one -/
def SqS (K : PySem.W.Frag) (H : Hp) (r scr : Addr) (xs : List V) : Prop := ∀ H', Bt r H H' → SqL K H' scr xs
def RowS (K : PySem.W.Frag) (H : Hp) (r : Addr) (scr : Addr) (ns : List Int) (a b c : Int) : Prop := H r = some (.lst [.ref scr, .int a, .int b, .int c]) ∧ True ∧ SqS K H r scr (ns.map V.int) ∧ 0 ≤ a ∧ 0 ≤ b ∧ b < 2147483647
def Row (K : PySem.W.Frag) (S : Addr × List Int) (H : Hp) (r : Addr) : Prop := ∃ a b c, RowS K H r S.1 S.2 a b c
theorem seq_bt {r x : Addr} {H H1 : Hp} {xs : List V} (h : Bt r H H1) (n : x ≠ r) (s : SqL K H x xs) : SqL K H1 x xs := by
  rcases s with (s | ⟨o, s⟩) | s
  · exact .inl (.inl (h x _ n s))
  · exact .inl (.inr ⟨o, h x _ n s⟩)
  · exact .inr s
theorem RowS.ex {H H1 : Hp} {r scr : Addr} {ns : List Int} {a b c : Int} (e : Ex H H1) (h : RowS K H r scr ns a b c) : RowS K H1 r scr ns a b c := ⟨e _ _ h.1, h.2.1, fun H' b => h.2.2.1 H' ((bt_ex e).trans b), h.2.2.2⟩
theorem RowS.put {H : Hp} {r scr : Addr} {ns : List Int} {a b c a' b' c' : Int} (h : RowS K H r scr ns a b c) (h1 : 0 ≤ a') (h2 : 0 ≤ b') (h3 : b' < 2147483647) : RowS K (upd H r (.lst [.ref scr, .int a', .int b', .int c'])) r scr ns a' b' c' :=
  ⟨upd_same, h.2.1, fun H' b => h.2.2.1 H' (bt_upd.trans b), h1, h2, h3⟩
theorem RowS.dp {H : Hp} {r scr : Addr} {ns : List Int} {a b c : Int} (h : RowS K H r scr ns a b c) : Dp K H (.ref r) (.list [.list (ns.map PyData.int), .int a, .int b, .int c]) :=
  .lst (Evl.sq_of h.1) (.cons (.lst (h.2.2.1 H (Bt.refl r H)) (dp_ints ns)) (.cons (.int a) (.cons (.int b) (.cons (.int c) .nil))))
theorem Row.ex {S : Addr × List Int} {H H1 : Hp} {r : Addr} (e : Ex H H1) (h : Row K S H r) : Row K S H1 r := let ⟨a, b, c, z⟩ := h; ⟨a, b, c, z.ex e⟩
theorem row_new {S : Addr × List Int} {H : Hp} {r p : Addr} {o : HO} (h : Row K S H r) (np : H p = none) : p ≠ r ∧ Row K S (upd H p o) r ∧ Bt r H (upd H p o) := by
  obtain ⟨a, b, c, z⟩ := h
  have n : p ≠ r := fun e => by rw [e, z.1] at np; cases np
  exact ⟨n, ⟨a, b, c, z.ex (Ex.new np)⟩, bt_ex (Ex.new np)⟩
/-- an object that was not there ahead may change -/
theorem row_keep {S : Addr × List Int} {H1 H2 : Hp} {r D : Addr} {o : HO} (h1 : Row K S H1 r) (hD : H1 D = none) (b : Bt r H1 H2) (h2 : Row K S H2 r) : Row K S (upd H2 D o) r ∧ Bt r H1 (upd H2 D o) := by
  obtain ⟨x, y, z, k1⟩ := h1
  obtain ⟨a, b', c, k2⟩ := h2
  have n : r ≠ D := fun e => by rw [← e, k1.1] at hD; cases hD
  have hb : Bt r H1 (upd H2 D o) := fun w u nw hw => by
    rw [upd_ne fun e => by rw [e, hD] at hw; cases hw]
    exact b w u nw hw
  exact ⟨⟨a, b', c, (upd_ne n).trans k2.1, k2.2.1, fun H' b' => k1.2.2.1 H' (hb.trans b'), k2.2.2.2⟩, hb⟩
abbrev nTaken : List Str := ["row", "many", "found", "cell"]
theorem sc_taken : FnScope nTaken ["row", "many"] (defScope sTaken) := ⟨rfl, rfl, rfl, by decide +kernel, rfl, by decide +kernel, by decide +kernel⟩
def spTaken (K : PySem.W.Frag) : Sp := fun vs H Q _ => ∃ (r : Addr) (S : Addr × List Int) (many : Int), vs = [.ref r, .int many] ∧ Row K S H r ∧ 0 < many ∧ many < 1000000 ∧ ∀ (k : Nat) H', (k : Int) < many → Bt r H H' → Row K S H' r → Q (.int (k : Int)) H'
theorem c_taken (D : Df K mg "_law_taken" sTaken) (hb : Bl mg) : Cl P w K mg base 1 "_law_taken" (spTaken K) [] := by
  refine cl_of D sc_taken (fun vs H Q E ⟨r, S, m, h, _⟩ => by rw [h]; rfl) (fun _ _ _ _ _ _ us hl => match us, hl with | [_, _], _ => rfl) fun f cdv A outer s H vs Q E hr h => ?_
  obtain ⟨r, ⟨scr, ns⟩, many, rfl, ⟨a, b, c, hR⟩, hm, hm2, q⟩ := h
  refine ⟨_, pss_cons (ps_if (pt_cmpR op_gt (pe_ix ix_list (pv 0) pe_int (fun _ _ => rfl)) pe_int (nomark _))
      (pss_cons (ps_set (i := 2) sc_taken.nd rfl (.inl rfl) (pe_op op_mod (pe_int1 hb (pe_ix ix_list (pv 0) pe_int (fun _ _ => rfl))) (pv 1)))
      (pss_cons (ps_asg (pe_op op_fdiv (pe_ix ix_list (pv 0) pe_int (fun _ _ => rfl)) (pv 1)) (pg_sub (pv 0) pe_int set_list)) (pss_one (ps_ret (pv 2))))) pss_nil)
    (pss_cons (ps_asg (pe_op op_add (pe_ix ix_list (pv 0) pe_int (fun _ _ => rfl)) pe_int) (pg_sub (pv 0) pe_int set_list))
    (pss_cons (ps_if (pt_cmpR op_gt (pe_ix ix_list (pv 0) pe_int (fun _ _ => rfl)) (pe_lenQ hb (pe_ix ix_list (pv 0) pe_int (fun _ _ => rfl))) (nomark _))
      (pss_cons (ps_asg (pe_op op_mod (pe_int1 hb (pe_op op_add (pe_op op_mul (pe_ix ix_list (pv 0) pe_int (fun _ _ => rfl)) pe_int) pe_int)) pe_int) (pg_sub (pv 0) pe_int set_list))
      (pss_one (ps_ret (pe_op op_mod (pe_int1 hb (pe_op op_fdiv (pe_ix ix_list (pv 0) pe_int (fun _ _ => rfl)) pe_int)) (pv 1))))) pss_nil)
    (pss_cons (ps_set (i := 3) sc_taken.nd rfl (.inl rfl) (pe_ix ix_list (pe_ix ix_list (pv 0) pe_int (fun _ _ => rfl)) (pe_op op_sub (pe_ix ix_list (pv 0) pe_int (fun _ _ => rfl)) pe_int) (fun _ _ => rfl)))
    (pss_cons (ps_asg (pe_op op_mod (pe_int1 hb (pe_op op_add (pe_op op_add (pe_op op_mul (pe_ix ix_list (pv 0) pe_int (fun _ _ => rfl)) pe_int) (pv 3)) pe_int)) pe_int) (pg_sub (pv 0) pe_int set_list))
    (pss_cons (ps_if (pt_cmpR op_ge (pv 3) (pe_op op_pow pe_int pe_int) (nomark _)) (pss_one (ps_asg (pe_op op_fdiv (pv 3) (pv 1)) (pg_sub (pv 0) pe_int set_list))) pss_nil)
    (pss_one (ps_ret (pe_op op_mod (pe_int1 hb (pv 3)) (pv 1))))))))), ?_⟩
  -- what the slots hold
  have a0 : ∀ {x2 x3 : Option V} {G : Hp} {a b c : Int}, RowS K G r scr ns a b c → At K [some (.ref r), some (.int many), x2, x3] G 0 (.list [.list (ns.map PyData.int), .int a, .int b, .int c]) := fun h => ⟨_, rfl, h.dp⟩
  have a1 : ∀ {x2 x3 : Option V} {G : Hp}, At K [some (.ref r), some (.int many), x2, x3] G 1 (.int many) := ⟨_, rfl, .int _⟩
  have ix : ∀ {x2 x3 : Option V} {G : Hp} {a b c : Int} (j : Nat) (d : PyData), RowS K G r scr ns a b c → [PyData.list (ns.map PyData.int), .int a, .int b, .int c][j]? = some d → EvD K (tOp (rIxL K) (tVar 0) (tC (.int (j : Int)))) [some (.ref r), some (.int many), x2, x3] G d := fun j d h e => d_ixL (d_var (a0 h)) d_int (atI_nat e)
  have fin : ∀ (i : Int) (G : Hp), Bt r H G → Row K (scr, ns) G r → Q (.int (i % many)) G := fun i G h1 h2 => by
    have z1 := Int.emod_nonneg i (show many ≠ 0 by omega)
    have z2 := Int.emod_lt_of_pos i hm
    have z := q (i % many).toNat G (by omega) h1 h2
    rw [show (((i % many).toNat : Nat) : Int) = i % many by omega] at z
    exact z
  refine Evl.q_when (b := decide ((0 : Int) < c)) (t_ofD (d_cmpI (g := fun i j => decide (j < i)) (ix 3 _ hR rfl) d_int)) (fun hc H1 e1 => ?_) fun hc H1 e1 => ?_
  · refine AsKit.q_asg (K := K) (d_opC (C := fun _ j => 0 < j) (g := fun i j => i % j) (d_int1 (ix 3 _ (hR.ex e1) rfl)) (d_var a1) hm) fun v2 H2 e2 hv => ?_
    have hR2 := (hR.ex e1).ex e2
    refine q_setI (K := K) (j := 3) rfl hR2.1 (d_opC (C := CDiv) (g := fun i j => i / j) (ix 3 _ hR2 rfl) (d_var a1) ⟨hm, by omega⟩) d_int (by show 3 < 4; decide) fun H3 e3 => ?_
    cases hv
    have hR3 := hR2.ex e3
    refine AsKit.s_ret (K := K) (d_var ⟨_, rfl, .int _⟩) fun u H4 e4 hu => ?_
    cases hu
    exact fin c H4 ((bt_ex (e1.trans (e2.trans e3))).trans (bt_upd.trans (bt_ex e4))) ⟨a, b, _, (hR3.put (c' := c / many) hR.2.2.2.1 hR.2.2.2.2.1 hR.2.2.2.2.2).ex e4⟩
  · have hR1 := hR.ex e1
    refine q_setI (K := K) (j := 1) rfl hR1.1 (d_arI (g := fun i j => i + j) (ix 1 _ hR1 rfl) d_int) d_int (by show 1 < 4; decide) fun H2 e2 => ?_
    have hR2 := (hR1.ex e2).put (a' := a + 1) (b' := b) (c' := c) (by have := hR.2.2.2.1; omega) hR.2.2.2.2.1 hR.2.2.2.2.2
    have b2 : Bt r H (upd H2 r (.lst [.ref scr, .int (a + 1), .int b, .int c])) := (bt_ex (e1.trans e2)).trans bt_upd
    have hb1 := hR.2.2.2.2.1
    have hb2 := hR.2.2.2.2.2
    have ha1 := hR.2.2.2.1
    obtain ⟨G, eG⟩ : ∃ G, G = upd H2 r (.lst [.ref scr, .int (a + 1), .int b, .int c]) := ⟨_, rfl⟩
    show tSeq (tIfS _ _ tNext) _ _ [some (.ref r), some (.int many), none, none] (upd H2 r (.lst [.ref scr, .int (a + 1), .int b, .int c]))
    rw [← eG] at hR2 b2 ⊢
    have len : ∀ {x2 x3 : Option V} {G : Hp} {a b c : Int}, RowS K G r scr ns a b c → EvD K (tCB (rLenQ K) (tCons (tOp (rIxL K) (tVar 0) (tC (.int 0))) tNil)) [some (.ref r), some (.int many), x2, x3] G (.int (ns.length : Int)) := fun h => d_eqTo (d_lenL (ix 0 _ h rfl)) (by rw [List.length_map])
    refine Evl.q_when (b := decide ((ns.length : Int) < a + 1)) (t_ofD (d_cmpI (g := fun i j => decide (j < i)) (ix 1 _ hR2 rfl) (len hR2))) (fun hc H3 e3 => ?_) fun hc H3 e3 => ?_
    · have hR3 := hR2.ex e3
      refine q_setI (K := K) (j := 2) rfl hR3.1 (d_opC (C := fun _ j => 0 < j) (g := fun i j => i % j) (d_int1 (d_arI (g := fun i j => i + j) (d_opC (C := CMul) (g := fun i j => i * j) (ix 2 _ hR3 rfl) d_int (.inl ⟨by omega, by omega⟩)) d_int)) d_int (by decide)) d_int (by show 2 < 4; decide) fun H4 e4 => ?_
      have hR4 := (hR3.ex e4).put (a' := a + 1) (b' := (b * 48271 + 11) % 2147483647) (c' := c) (by omega) (Int.emod_nonneg _ (by decide)) (Int.emod_lt_of_pos _ (by decide))
      refine AsKit.s_ret (K := K) (d_opC (C := fun _ j => 0 < j) (g := fun i j => i % j) (d_int1 (d_opC (C := CDiv) (g := fun i j => i / j) (ix 2 _ hR4 rfl) d_int ⟨by decide, by decide⟩)) (d_var a1) hm) fun u H5 e5 hu => ?_
      cases hu
      exact fin _ H5 (b2.trans ((bt_ex (e3.trans e4)).trans (bt_upd.trans (bt_ex e5)))) ⟨_, _, _, hR4.ex e5⟩
    · have hlt : a.toNat < ns.length := by have := of_decide_eq_false hc; omega
      have hR3 := hR2.ex e3
      have hcell : ns[a.toNat]? = some ns[a.toNat] := List.getElem?_eq_getElem hlt
      refine AsKit.q_asg (K := K) (d := .int ns[a.toNat]) (d_ixL (ds := ns.map PyData.int) (i := (a + 1) - 1) (ix 0 _ hR3 rfl) (d_arI (g := fun i j => i - j) (ix 1 _ hR3 rfl) d_int) ?_) fun v3 H4 e4 hv => ?_
      · rw [show a + 1 - 1 = ((a.toNat : Nat) : Int) by omega]
        exact atI_nat (by rw [List.getElem?_map, hcell]; rfl)
      cases hv
      have hR4 := hR3.ex e4
      have a3 : ∀ {G : Hp}, At K [some (.ref r), some (.int many), none, some (.int ns[a.toNat])] G 3 (.int ns[a.toNat]) := ⟨_, rfl, .int _⟩
      refine q_setI (K := K) (j := 2) rfl hR4.1 (d_opC (C := fun _ j => 0 < j) (g := fun i j => i % j) (d_int1 (d_arI (g := fun i j => i + j) (d_arI (g := fun i j => i + j) (d_opC (C := CMul) (g := fun i j => i * j) (ix 2 _ hR4 rfl) d_int (.inl ⟨by omega, by omega⟩)) (d_var a3)) d_int)) d_int (by decide)) d_int (by show 2 < 4; decide) fun H5 e5 => ?_
      have hR5 := (hR4.ex e5).put (a' := a + 1) (b' := (b * 48271 + ns[a.toNat] + 11) % 2147483647) (c' := c) (by omega) (Int.emod_nonneg _ (by decide)) (Int.emod_lt_of_pos _ (by decide))
      have b5 : Bt r H (upd H5 r (.lst [.ref scr, .int (a + 1), .int ((b * 48271 + ns[a.toNat] + 11) % 2147483647), .int c])) := b2.trans ((bt_ex (e3.trans (e4.trans e5))).trans bt_upd)
      have last : ∀ G, Bt r H G → Row K (scr, ns) G r → tRet (tOp (rI (fun _ j => 0 < j) fun i j => .int (i % j)) (tCB rInt1 (tCons (tVar 3) tNil)) (tVar 1)) { nx := fun _ H' => Q .non H', rt := Q } [some (.ref r), some (.int many), none, some (.int ns[a.toNat])] G := fun G h1 ⟨x, y, z, h2⟩ =>
        AsKit.s_ret (K := K) (d_opC (C := fun _ j => 0 < j) (g := fun i j => i % j) (d_int1 (d_var a3)) (d_var a1) hm) fun u H6 e6 hu => by
          cases hu
          exact fin _ H6 (h1.trans (bt_ex e6)) ⟨x, y, z, h2.ex e6⟩
      refine Evl.q_when (b := decide ((10 : Int) ^ (18 : Int).toNat ≤ ns[a.toNat])) (t_ofD (K := K) (d_cmpI (g := fun i j => decide (j ≤ i)) (d_var a3) (d_opC (C := CPow) (g := fun i j => i ^ j.toNat) d_int d_int ?_))) (fun hc H6 e6 => ?_) fun hc H6 e6 => ?_
      · exact ⟨by decide, by decide, by decide⟩
      · have hR6 := hR5.ex e6
        refine s_setI (K := K) (j := 3) rfl hR6.1 (d_opC (C := CDiv) (g := fun i j => i / j) (d_var a3) (d_var a1) ⟨hm, by omega⟩) d_int (by show 3 < 4; decide) fun H7 e7 => ?_
        exact last _ (b5.trans ((bt_ex (e6.trans e7)).trans bt_upd)) ⟨_, _, _, (hR6.ex e7).put (a' := a + 1) (b' := (b * 48271 + ns[a.toNat] + 11) % 2147483647) (c' := ns[a.toNat] / many) (by omega) (Int.emod_nonneg _ (by decide)) (Int.emod_lt_of_pos _ (by decide))⟩
      · exact last H6 (b5.trans (bt_ex e6)) ⟨_, _, _, hR5.ex e6⟩
end
end K27

set_option maxHeartbeats 4000000
set_option autoImplicit false
namespace AsKit
open PySem PySem.Spec PyProof.Rows L2 AsSort
open Evl (Ex Ev EvT EvA)
/-- the text of these signs -/
def ones (cs : List Nat) : List Str := cs.map fun c => (⟨#[c]⟩ : Str)
theorem joinL_ones : ∀ cs : List Nat, TL.joinL [] (cs.map fun c => [c]) = cs
  | [] => rfl
  | [c] => rfl
  | c :: d :: r => by
    show [c] ++ ([] ++ TL.joinL [] ([d] :: r.map fun c => [c])) = _
    rw [show ([d] :: r.map fun c => [c]) = (d :: r).map fun c => [c] from rfl, joinL_ones (d :: r)]
    rfl
theorem joined1 (cs : List Nat) : (Txt.join "" (ones cs)).cps.toList = cs := by
  show TL.tl (Txt.join "" (ones cs)) = cs
  unfold Txt.join
  rw [StrLaws.glued_eq_join, TL.tl_join]
  have e1 : TL.tl ("" : Str) = [] := by decide +kernel
  have e2 : (ones cs).map TL.tl = cs.map fun c => [c] := by
    unfold ones
    rw [List.map_map]
    rfl
  rw [e1, e2]
  exact joinL_ones cs
section
variable {X : Cx}
/-- list(s), s a text -/
def rListS1 : List V → Hp → VK → Prop := fun xs H Q => ∃ z, xs = [.str z] ∧ z.length ≤ sizeLine ∧ ∀ p, H p = none → Q (.ref p) (upd H p (.lst (z.cps.toList.map fun c => V.str ⟨#[c]⟩)))
theorem call_listS1 (hc : X.calm = true) : CallR X (.type "list") rListS1 := by
  intro pins s σ H xs us Q I r h
  obtain ⟨z, rfl, hz, q⟩ := h
  obtain ⟨u, rfl, rx⟩ := vals1 r
  obtain ⟨t, rfl⟩ := rx
  have hl : z.cps.toList.length = z.cps.size := Array.length_toList
  refine call_list_str (I.ok.hd hc) z t (hn := hz) fun h' tk acc c hk hS hacc => ?_
  refine ⟨.ref s.heap.objs.size, _, I.laid (t' := tk) hk (Nat.le_refl _) (show ObjOk X.prog X.w _ h' _ (.lst (z.cps.toList.map fun c => V.str ⟨#[c]⟩)) from ⟨by rw [List.length_map, hl]; exact hz, acc.toList, c, ?_, ?_⟩), rfl, q _ (I.hok.fresh (Nat.le_refl _))⟩
  · have el : acc.toList.length = acc.size := Array.length_toList
    refine vals_of_at (by rw [List.length_map, el, hacc.1, hl]) fun j x w h1 h2 => ?_
    obtain ⟨d, u, hd, rfl⟩ := hacc.2 j w (by rw [← Array.getElem?_toList]; exact h2)
    rw [List.getElem?_map, Array.getElem?_toList, hd] at h1
    cases h1
    exact ⟨u, rfl⟩
  · rw [Array.toArray_toList]
    exact hS
end
end AsKit
namespace K27
open PySem PySem.Spec PyProof.Rows L2 AsSort AsKit
open Evl (Ex Ev EvT EvA)
section
variable {P : Program} {w : World} {K : PySem.W.Frag} {mg : Str → Option Value} {base : Heap}
theorem sc_pick : FnScope ["row", "things"] ["row", "things"] (defScope sPick) := ⟨rfl, rfl, rfl, by decide +kernel, rfl, by decide +kernel, by decide +kernel⟩
def spPick (K : PySem.W.Frag) : Sp := fun vs H Q _ => ∃ (r : Addr) (S : Addr × List Int) (t : Addr) (xs : List V), vs = [.ref r, .ref t] ∧ Row K S H r ∧ t ≠ r ∧ SqL K H t xs ∧ xs ≠ [] ∧ xs.length < 1000000 ∧ ∀ x H', x ∈ xs → Bt r H H' → Row K S H' r → Q x H'
theorem c_pick (D : Df K mg "_law_pick" sPick) (hb : Bl mg) (C1 : Cl P w K mg base 1 "_law_taken" (spTaken K) []) : Cl P w K mg base 2 "_law_pick" (spPick K) [] := by
  refine cl_of D sc_pick (fun vs H Q E ⟨r, S, t, xs, h, _⟩ => by rw [h]; rfl) (fun _ _ _ _ _ _ us hl => match us, hl with | [_, _], _ => rfl) fun f cdv A outer s H vs Q E hr h => ?_
  obtain ⟨r, S, t, xs, rfl, hR, ht, hs, hn, hz, q⟩ := h
  refine ⟨_, pss_one (ps_ret (pe_ix ix_list (pv 1) (C8.pe_c C1 hr (by decide) (by rfl) (pa_cons (pv 0) (pa_cons (pe_lenQ hb (pv 1)) pa_nil))) (fun _ _ => rfl))), ?_⟩
  have hp : 0 < xs.length := List.length_pos_iff.mpr hn
  refine ⟨.ref t, rfl, .ref r, rfl, .ref t, rfl, t, xs, rfl, .inl hs, r, S, (xs.length : Int), rfl, hR, by omega, by omega, fun k H' hk hb2 hR2 => ?_⟩
  have hk2 : k < xs.length := by omega
  exact ⟨t, xs, (k : Int), xs[k], rfl, rfl, seq_bt hb2 ht hs, atI_nat (List.getElem?_eq_getElem hk2), q _ H' (List.getElem_mem hk2) hb2 hR2⟩
theorem sc_letters : FnScope ["row"] ["row"] (defScope sLetters) := ⟨rfl, rfl, rfl, by decide +kernel, rfl, by decide +kernel, by decide +kernel⟩
def seven : List Str := ["a", "ab", "ab", "ab", "bz", "abc", "cdx"]
def spLetters (K : PySem.W.Frag) : Sp := fun vs H Q _ => ∃ (r : Addr) (S : Addr × List Int), vs = [.ref r] ∧ Row K S H r ∧ ∀ z H', z ∈ seven → Bt r H H' → Row K S H' r → Q (.str z) H'
theorem c_letters (D : Df K mg "_law_letters" sLetters) (C1 : Cl P w K mg base 2 "_law_pick" (spPick K) []) : Cl P w K mg base 3 "_law_letters" (spLetters K) [] := by
  refine cl_of D sc_letters (fun vs H Q E ⟨r, S, h, _⟩ => by rw [h]; rfl) (fun _ _ _ _ _ _ us hl => match us, hl with | [_], _ => rfl) fun f cdv A outer s H vs Q E hr h => ?_
  obtain ⟨r, S, rfl, hR, q⟩ := h
  refine ⟨_, pss_one (ps_ret (C8.pe_c C1 hr (by decide) (by rfl) (pa_cons (pv 0) (pa_cons (pe_lst (pa_cons pe_str (pa_cons pe_str (pa_cons pe_str (pa_cons pe_str (pa_cons pe_str (pa_cons pe_str (pa_cons pe_str pa_nil)))))))) pa_nil)))), ?_⟩
  refine ⟨.ref r, rfl, by show 7 ≤ sizeLine; decide, fun p np => ?_⟩
  have z := row_new (o := .lst (seven.map V.str)) hR np
  refine ⟨r, S, p, seven.map V.str, rfl, z.2.1, z.1, Evl.sq_of upd_same, by decide, by decide, fun x H' hx hb hR' => ?_⟩
  obtain ⟨y, hy, rfl⟩ := List.mem_map.mp hx
  exact q y H' hy (z.2.2.trans hb) hR'
abbrev nText : List Str := ["row", "letters", "most", "turn"]
theorem sc_text : FnScope nText ["row", "letters", "most"] (defScope sText) := ⟨rfl, rfl, rfl, by decide +kernel, rfl, by decide +kernel, by decide +kernel⟩
def spText (K : PySem.W.Frag) : Sp := fun vs H Q _ => ∃ (r : Addr) (S : Addr × List Int) (y : Str) (m : Nat), vs = [.ref r, .str y, .int (m : Int)] ∧ Row K S H r ∧ 0 < y.length ∧ y.length ≤ 1000 ∧ m ≤ 1000 ∧ ∀ (z : Str) H', z.length ≤ m → allIn y z = true → Bt r H H' → Row K S H' r → Q (.str z) H'
theorem c_text (D : Df K mg "_law_text" sText) (hb : Bl mg) (C1 : Cl P w K mg base 1 "_law_taken" (spTaken K) []) (C2 : Cl P w K mg base 2 "_law_pick" (spPick K) []) : Cl P w K mg base 3 "_law_text" (spText K) [] := by
  refine cl_of D sc_text (fun vs H Q E ⟨r, S, y, m, h, _⟩ => by rw [h]; rfl) (fun _ _ _ _ _ _ us hl => match us, hl with | [_, _, _], _ => rfl) fun f cdv A outer s H vs Q E hr h => ?_
  obtain ⟨r, S, y, m, rfl, hR, hy, hy2, hm, q⟩ := h
  refine ⟨_, pss_one (ps_ret (pe_join pe_str (pe_lcn 3 sc_text.nd (pi_range1 (by rfl) (hb _ (by decide +kernel)) (pa_cons (C8.pe_c C1 hr (by decide) (by rfl) (pa_cons (pv 0) (pa_cons (pe_op op_add (pv 2) pe_int) pa_nil))) pa_nil)) (fun _ _ _ _ _ => pts_nil)
    (fun _ _ _ _ _ => C8.pe_c C2 hr (by decide) (by rfl) (pa_cons (pv 0) (pa_cons (pe_callTy (call_listS1 rfl) (by rfl) (hb _ (by decide +kernel)) (by decide +kernel) (pa_cons (pv 1) pa_nil)) pa_nil))) (fun _ _ _ _ _ => pg_name sc_text.nd rfl (.inl rfl)) (blkOk_by (N := nText) (sc := defScope sText) (own := [("turn", 3)]) (by decide +kernel)) rfl))), ?_⟩
  refine ⟨⟨_, rfl⟩, .ref r, rfl, .int (m : Int), rfl, _, _, rfl, rfl, r, S, (m : Int) + 1, rfl, hR, by omega, by omega, fun k H1 hk hb1 hR1 => ?_⟩
  refine ⟨(k : Int), rfl, by omega, by omega, fun D hD => ?_⟩
  have nD := row_new (o := .lst []) hR1 hD
  have hyl : y.cps.toList.length = y.length := Array.length_toList
  refine lc_range (lo := 0) (n := ((k : Int)).toNat) (fun i H' => Bt r H1 H' ∧ Row K S H' r ∧ ∃ cs : List Nat, H' D = some (.lst ((ones cs).map V.str)) ∧ cs.length = i ∧ ∀ c ∈ cs, c ∈ y.cps.toList) ⟨nD.2.2, nD.2.1, [], upd_same, rfl, fun _ h => nomatch h⟩ (fun i H' hi p => ?_) fun H' p => ?_
  · obtain ⟨p1, p2, cs, p3, p4, p5⟩ := p
    refine ⟨rfl, ?_⟩
    refine ⟨.ref r, rfl, .str y, rfl, y, rfl, Evl.sz_of (by omega), fun t nt => ?_⟩
    have nT := row_new (o := .lst (y.cps.toList.map fun c => V.str ⟨#[c]⟩)) p2 nt
    refine ⟨r, S, t, _, rfl, nT.2.1, nT.1, Evl.sq_of upd_same, ?_, by rw [List.length_map]; omega, fun x H2 hx hb2 hR2 => ?_⟩
    · intro e
      have := congrArg List.length e
      rw [List.length_map, List.length_nil] at this
      omega
    · obtain ⟨c, hc, rfl⟩ := List.mem_map.mp hx
      have tD : D ≠ t := fun e => by rw [e, nt] at p3; cases p3
      have h3 : H2 D = some (.lst ((ones cs).map V.str)) := hb2 D _ nD.1 ((upd_ne tD).trans p3)
      have bb : Bt r H1 H2 := p1.trans (nT.2.2.trans hb2)
      have kk := row_keep (o := .lst ((ones cs).map V.str ++ [.str ⟨#[c]⟩])) hR1 hD bb hR2
      refine ⟨_, h3, Evl.sz_lt (by unfold ones; rw [List.length_map, List.length_map, p4]; omega), kk.2, kk.1, cs ++ [c], ?_, by rw [List.length_append, p4]; rfl, fun d hd => ?_⟩
      · rw [upd_same]
        unfold ones
        rw [List.map_append, List.map_append]
        rfl
      · rcases List.mem_append.mp hd with hd | hd
        · exact p5 d hd
        · rw [List.mem_singleton.mp hd]
          exact hc
  · obtain ⟨p1, p2, cs, p3, p4, p5⟩ := p
    have hj := joined1 cs
    have hl : (Txt.join "" (ones cs)).length = cs.length := by
      have e := congrArg List.length hj
      rw [Array.length_toList] at e
      exact e
    refine ⟨_, D, ones cs, rfl, rfl, .inl (Evl.sq_of p3), ?_, q _ H' (by rw [hl]; omega) ?_ (hb1.trans p1) p2⟩
    · have e1 : (ones cs).map (·.length) = cs.map fun _ => 1 := by
        unfold ones
        rw [List.map_map]
        rfl
      have e2 : ∀ l : List Nat, (l.map fun _ => 1).sum = l.length := fun l => by
        induction l with
        | nil => rfl
        | cons x l ih => rw [List.map_cons, List.sum_cons, ih, List.length_cons]; omega
      rw [e1, e2]
      have e3 : (ones cs).length = cs.length := List.length_map ..
      have e4 : (("" : Str)).length = 0 := by decide +kernel
      rw [e3, e4]
      omega
    · unfold allIn
      rw [hj]
      exact List.all_eq_true.mpr fun c hc => decide_eq_true (p5 c hc)
end
end K27

set_option maxHeartbeats 4000000
set_option autoImplicit false
namespace K27
open PySem PySem.Spec PyProof.Rows L2 AsSort AsKit
open Evl (Ex Ev EvT EvA)
section
variable {P : Program} {w : World} {K : PySem.W.Frag} {mg : Str → Option Value} {base : Heap}
theorem tu_bt {S : Addr × List Int} {H H' : Hp} {r : Addr} (h : Row K S H r) (b : Bt r H H') : Tu K H H' := tu_rd fun a xs q => by
  obtain ⟨x, y, z, h1⟩ := h
  have n : ∀ u, H a = some u → (∀ zs, u ≠ .lst zs) → a ≠ r := fun u e n w => by
    rw [w, h1.1] at e
    exact n _ (Option.some.inj e).symm
  rcases q with q | ⟨o, q⟩
  · exact .inl (b a _ (n _ q fun _ z => nomatch z) q)
  · exact .inr ⟨o, b a _ (n _ q fun _ z => nomatch z) q⟩
/-- a kind that the law draws -/
def Gd (y : Str) (p : Str × Str) : Prop := p.1.length ≤ 3 ∧ p.2.length ≤ 1 ∧ allIn y p.1 = true ∧ allIn y p.2 = true ∧ p.1 ≠ p.2
theorem lay_kinds {y : Str} (hy : PyData.strOk y = true) : ∀ ps : List (Str × Str), (∀ p ∈ ps, allIn y p.1 = true ∧ allIn y p.2 = true) → PyData.canLayAll0 (ps.map kD) = true ∧ PyData.depthAll (ps.map kD) ≤ 2
  | [], _ => by simp [PyData.canLayAll0, PyData.depthAll]
  | p :: ps, h => by
    have z := lay_kinds hy ps fun q hq => h q (List.mem_cons_of_mem _ hq)
    have z1 := h p (List.mem_cons_self ..)
    refine ⟨by simp [kD, PyData.canLay0, PyData.canLayAll0, strOk_in hy z1.1, strOk_in hy z1.2, z.1], ?_⟩
    have e : PyData.depthAll ((p :: ps).map kD) = max (kD p).depth (PyData.depthAll (ps.map kD)) := by simp [PyData.depthAll]
    have e2 : (kD p).depth ≤ 2 := by simp [kD, PyData.depth, PyData.depthAll]
    rw [e]
    have := z.2
    omega
theorem shaped_kinds {y : Str} (hy : PyData.strOk y = true) {ps : List (Str × Str)} (h : ∀ p ∈ ps, allIn y p.1 = true ∧ allIn y p.2 = true) : SeqAt.shaped (.list (ps.map kD)) = true := by
  have z := lay_kinds hy ps h
  unfold SeqAt.shaped
  have e : (PyData.list (ps.map kD)).depth = PyData.depthAll (ps.map kD) + 1 := by simp [PyData.depth, Nat.add_comm]
  rw [e, decide_eq_true (by have := z.2; omega), Bool.and_true]
  simpa [PyData.canLay0] using z.1
theorem shaped_kind {y : Str} (hy : PyData.strOk y = true) {p : Str × Str} (h1 : allIn y p.1 = true) (h2 : allIn y p.2 = true) : SeqAt.shaped (kD p) = true := by
  unfold SeqAt.shaped
  simp [kD, PyData.canLay0, PyData.canLayAll0, PyData.depth, PyData.depthAll, strOk_in hy h1, strOk_in hy h2]
theorem d_notIn {σ : L2.St} {H : Hp} {ta tb : TE} {d : PyData} {ds : List PyData} (h : EvD K ta σ H d) (h2 : EvD K tb σ H (.list ds)) (sd : SeqAt.shaped d = true) (se : SeqAt.shaped (.list ds) = true) : EvD K (tOp (rNotInD K) ta tb) σ H (.bool (!ds.any fun z => PyData.eqv z d)) := fun H1 a Q q =>
  h H1 a _ fun v H2 u hd => h2 H2 (a.trans u) _ fun w H3 y he => ⟨d, ds, dp_ex y hd, he, sd, se, q _ H3 (u.trans y) (.bl _)⟩
abbrev nKinds : List Str := ["row", "letters", "most", "found", "turn", "kind"]
theorem sc_kinds : FnScope nKinds ["row", "letters", "most"] (defScope sKinds) := ⟨rfl, rfl, rfl, by decide +kernel, rfl, by decide +kernel, by decide +kernel⟩
def spKinds (K : PySem.W.Frag) : Sp := fun vs H Q _ => ∃ (r : Addr) (S : Addr × List Int) (y : Str) (m : Nat), vs = [.ref r, .str y, .int (m : Int)] ∧ Row K S H r ∧ PyData.strOk y = true ∧ 0 < y.length ∧ y.length ≤ 1000 ∧ m ≤ 1000 ∧
  ∀ v (ps : List (Str × Str)) H', Dp K H' v (.tuple (ps.map kD)) → ps.Nodup → ps.length ≤ m → (∀ p ∈ ps, Gd y p) → Bt r H H' → Row K S H' r → Q v H'
theorem c_kinds (D : Df K mg "_law_kinds" sKinds) (hb : Bl mg) (C1 : Cl P w K mg base 1 "_law_taken" (spTaken K) []) (C2 : Cl P w K mg base 2 "_law_pick" (spPick K) []) (C3 : Cl P w K mg base 3 "_law_text" (spText K) []) : Cl P w K mg base 4 "_law_kinds" (spKinds K) [] := by
  refine cl_of D sc_kinds (fun vs H Q E ⟨r, S, y, m, h, _⟩ => by rw [h]; rfl) (fun _ _ _ _ _ _ us hl => match us, hl with | [_, _, _], _ => rfl) fun f cdv A outer s H vs Q E hr h => ?_
  obtain ⟨r, S, y, m, rfl, hR, hso, hy, hy2, hm, q⟩ := h
  have hu : (A.deeper (envOfC "_law_kinds" (defScope sKinds) s.heap.objs.size f cdv)).units + 65 < cLine := by have := hr.un; omega
  refine ⟨_, pss_cons (ps_set (i := 3) sc_kinds.nd rfl (.inl rfl) (pe_lst pa_nil))
    (pss_cons (ps_for PassesOwn.never rfl (pi_range1 (by rfl) (hb _ (by decide +kernel)) (pa_cons (C8.pe_c C1 hr (by decide) (by rfl) (pa_cons (pv 0) (pa_cons (pe_op op_add (pv 2) pe_int) pa_nil))) pa_nil)) (pg_name (i := 4) sc_kinds.nd rfl (.inl rfl))
      (pss_cons (ps_set (i := 5) sc_kinds.nd rfl (.inl rfl) (pe_tup (pa_cons (C8.pe_c C3 hr (by decide) (by rfl) (pa_cons (pv 0) (pa_cons (pv 1) (pa_cons (C8.pe_c C2 hr (by decide) (by rfl) (pa_cons (pv 0) (pa_cons (pe_lst (pa_cons pe_int (pa_cons pe_int (pa_cons pe_int (pa_cons pe_int (pa_cons pe_int pa_nil)))))) pa_nil))) pa_nil)))) (pa_cons (C8.pe_c C3 hr (by decide) (by rfl) (pa_cons (pv 0) (pa_cons (pv 1) (pa_cons pe_int pa_nil)))) pa_nil))))
      (pss_one (ps_if (pw_and (pt_cmpR op_ne (pe_ix ix_tup (pv 5) pe_int (fun _ _ => rfl)) (pe_ix ix_tup (pv 5) pe_int (fun _ _ => rfl)) (nomark _)) (pw_and1 (pt_cmpR (op_notInD hu) (pv 5) (pv 3) rfl))).pt
        (pss_one (ps_expr (pe_bm PySem.F.plainAttrs_list PySem.F.slot_list_append PySem.F.type_list_append mt_append (pv 3) (pa_cons (pv 5) pa_nil)))) pss_nil))))
    (pss_one (ps_ret (pe_tupQ hb (pv 3))))), ?_⟩
  refine ⟨Evl.sz_of (Nat.zero_le _), fun l nl => ?_⟩
  have nL := row_new (o := .lst []) hR nl
  refine ⟨.ref r, rfl, .int (m : Int), rfl, _, _, rfl, rfl, r, S, (m : Int) + 1, rfl, nL.2.1, by omega, by omega, fun k H1 hk hb1 hR1 => ?_⟩
  have h1l : H1 l = some (.lst []) := hb1 l _ nL.1 upd_same
  refine ⟨(k : Int), rfl, by omega, by omega, ?_⟩
  refine for_range (lo := 0) (n := ((k : Int)).toNat) (fun i σ' H' => ∃ x4 x5, σ' = [some (.ref r), some (.str y), some (.int (m : Int)), some (.ref l), x4, x5] ∧ Bt r H H' ∧ Row K S H' r ∧ ∃ acc ps, H' l = some (.lst acc) ∧ DpAll K H' acc (ps.map kD) ∧ ps.Nodup ∧ ps.length ≤ i ∧ ∀ p ∈ ps, Gd y p)
    ⟨_, _, rfl, nL.2.2.trans hb1, hR1, [], [], h1l, .nil, List.nodup_nil, Nat.le_refl _, fun _ h => nomatch h⟩ (fun i σ' H' hi p => ?_) fun σ' H' p => ?_
  · obtain ⟨x4, x5, rfl, p1, p2, acc, ps, p3, p4, p5, p6, p7⟩ := p
    have okp : ∀ p ∈ ps, allIn y p.1 = true ∧ allIn y p.2 = true := fun p hp => ⟨(p7 p hp).2.2.1, (p7 p hp).2.2.2.1⟩
    -- kind = (.., ..)
    refine ⟨.ref r, rfl, .str y, rfl, .ref r, rfl, by show 5 ≤ sizeLine; decide, fun t nt => ?_⟩
    have nT := row_new (o := .lst [.int 1, .int 1, .int 2, .int 2, .int 3]) p2 nt
    refine ⟨r, S, t, [.int 1, .int 1, .int 2, .int 2, .int 3], rfl, nT.2.1, nT.1, Evl.sq_of upd_same, by decide, by decide, fun x H2 hx hb2 hR2 => ?_⟩
    have hx2 : ∃ n : Nat, n ≤ 3 ∧ x = .int (n : Int) := by
      simp only [List.mem_cons, List.not_mem_nil, or_false] at hx
      rcases hx with rfl | rfl | rfl | rfl | rfl
      · exact ⟨1, by omega, rfl⟩
      · exact ⟨1, by omega, rfl⟩
      · exact ⟨2, by omega, rfl⟩
      · exact ⟨2, by omega, rfl⟩
      · exact ⟨3, by omega, rfl⟩
    obtain ⟨n, hn, rfl⟩ := hx2
    refine ⟨r, S, y, n, rfl, hR2, hy, hy2, by omega, fun a H3 ha ha2 hb3 hR3 => ?_⟩
    refine ⟨.ref r, rfl, .str y, rfl, r, S, y, 1, rfl, hR3, hy, hy2, by omega, fun b H4 hb' hb2' hb4 hR4 => ?_⟩
    refine ⟨by show 2 ≤ sizeLine; decide, fun c nc => ?_⟩
    have tl : l ≠ t := fun e => by rw [e, nt] at p3; cases p3
    have b04 : Bt r H' H4 := nT.2.2.trans (hb2.trans (hb3.trans hb4))
    have h4l : H4 l = some (.lst acc) := b04 l _ nL.1 p3
    obtain ⟨G, eG⟩ : ∃ G, G = upd H4 c (.tup [.str a, .str b]) := ⟨_, rfl⟩
    have nC := row_new (o := .tup [.str a, .str b]) hR4 nc
    rw [← eG] at nC
    have cl : l ≠ c := fun e => by rw [e, nc] at h4l; cases h4l
    have hGl : G l = some (.lst acc) := by rw [eG, upd_ne cl]; exact h4l
    have bG : Bt r H' G := b04.trans nC.2.2
    have himm : immAll (ps.map kD) = true := immAll_of fun d hd => by
      obtain ⟨p, _, rfl⟩ := List.mem_map.mp hd
      rfl
    have hacc : DpAll K G acc (ps.map kD) := dpAll_tu (tu_bt p2 bG) himm p4
    have hc : Dp K G (.ref c) (kD (a, b)) := .tup (Evl.st_of (by rw [eG, upd_same])) (.cons (.str a) (.cons (.str b) .nil))
    dsimp only [gName]
    rw [← eG]
    have c5 : At K [some (.ref r), some (.str y), some (.int (m : Int)), some (.ref l), some (.int (0 + (i : Nat))), some (.ref c)] G 5 (kD (a, b)) := ⟨_, rfl, hc⟩
    have c3 : At K [some (.ref r), some (.str y), some (.int (m : Int)), some (.ref l), some (.int (0 + (i : Nat))), some (.ref c)] G 3 (.list (ps.map kD)) := ⟨_, rfl, .lst (Evl.sq_of hGl) hacc⟩
    refine Evl.s_if (b := (!decide (a = b)) && !((ps.map kD).any fun z => PyData.eqv z (kD (a, b)))) (Evl.et_and (t_ofD (d_neS (d_ixT (d_var c5) d_int rfl) (d_ixT (d_var c5) d_int rfl))) fun _ => t_ofD (d_notIn (d_var c5) (d_var c3) (shaped_kind hso ha2 hb2') (shaped_kinds hso okp))) (fun hcnd H5 e5 => ?_) fun _ H5 e5 => ?_
    · have hcnd2 : a ≠ b ∧ ¬ ((ps.map kD).any fun z => PyData.eqv z (kD (a, b))) = true := by
        simp only [Bool.and_eq_true, Bool.not_eq_true', decide_eq_false_iff_not] at hcnd
        exact ⟨hcnd.1, by rw [hcnd.2]; decide⟩
      have hnm : (a, b) ∉ ps := fun hmem => hcnd2.2 (List.any_eq_true.mpr ⟨_, List.mem_map_of_mem hmem, SeqAt.eqv_refl _ (SeqAt.canLay_of_shaped (shaped_kind hso ha2 hb2'))⟩)
      refine ⟨_, rfl, .inl ⟨rfl, acc, Evl.sq_of (e5 _ _ hGl)⟩, _, rfl, l, acc, .ref c, rfl, rfl, e5 _ _ hGl, Evl.sz_lt (by rw [dpAll_len p4, List.length_map]; omega), ?_⟩
      have kk := row_keep (o := .lst (acc ++ [.ref c])) hR nl ((p1.trans bG).trans (bt_ex e5)) (nC.2.1.ex e5)
      refine ⟨_, _, rfl, kk.2, kk.1, acc ++ [.ref c], ps ++ [(a, b)], upd_same, ?_, ?_, by rw [List.length_append]; show ps.length + 1 ≤ i + 1; omega, fun p hp => ?_⟩
      · rw [List.map_append]
        exact dpAll_snoc (dp_tu (tu_lst (e5 _ _ hGl)) rfl (dp_ex e5 hc)) (dpAll_tu (tu_lst (e5 _ _ hGl)) himm (dpAll_ex e5 hacc))
      · exact List.nodup_append.mpr ⟨p5, List.nodup_cons.mpr ⟨List.not_mem_nil, List.nodup_nil⟩, fun x hx y' hy' e => by rw [List.mem_singleton.mp hy'] at e; exact hnm (e ▸ hx)⟩
      · rcases List.mem_append.mp hp with hp | hp
        · exact p7 p hp
        · rw [List.mem_singleton.mp hp]
          exact ⟨by show a.length ≤ 3; omega, hb', ha2, hb2', hcnd2.1⟩
    · exact ⟨_, _, rfl, (p1.trans bG).trans (bt_ex e5), nC.2.1.ex e5, acc, ps, e5 _ _ hGl, dpAll_ex e5 hacc, p5, by omega, p7⟩
  · obtain ⟨x4, x5, rfl, p1, p2, acc, ps, p3, p4, p5, p6, p7⟩ := p
    refine AsKit.s_ret (K := K) (d_tupOf (d_var ⟨_, rfl, .lst (Evl.sq_of p3) p4⟩)) fun u H2 e2 hu => q u ps H2 hu p5 (by omega) p7 (p1.trans (bt_ex e2)) (p2.ex e2)
end
end K27

set_option maxHeartbeats 4000000
set_option autoImplicit true
/-! lambdas with parameters and captured names: made, called, handed to sorted. -/
namespace AsLam
open PySem PySem.Spec PyProof.Rows L2 LamX NdefX
open Evl (Ex)

/-- at f stands the lambda F, e its expression -/
def LamO (f : Addr) (F : NF) (e : Expr) : HO := .ext fun h => ∃ (od : Option Addr) (sl : Array (Option Value)) (pm ctv : Value), h.get? f = some (⟨.type "function", od, .func (PySem.W.kla_fn F.name F.qual F.params e F.scope F.cl pm (.ref F.c) ctv), sl⟩ : Obj)
theorem lamO_at {P : Program} {w : World} {H : Hp} {h : Heap} {f : Addr} {F : NF} {e : Expr} (ok : HOk P w H h) (q : H f = some (LamO f F e)) :
    ∃ (od : Option Addr) (sl : Array (Option Value)) (pm ctv : Value), h.get? f = some (⟨.type "function", od, .func (PySem.W.kla_fn F.name F.qual F.params e F.scope F.cl pm (.ref F.c) ctv), sl⟩ : Obj) := (ok f _ q).1

/-- its promise; ws what the captured names hold -/
structure LOk (P : Program) (w : World) (K : PySem.W.Frag) (mg : Str → Option Value) (base : Heap) (CX : CXT) (k : Nat) (f : Addr) (F : NF) (e : Expr) (ps fr : List Str) (sp : List (Option V) → Sp) : Prop where
  len : ∀ ws vs H Q E, sp ws vs H Q E → vs.length = ps.length
  run : ∀ (A : Around) (outer : List Env) (s : Shared) (H : Hp) (us : List Value) (vs : List V) (ws : List (Option V)) (Q : VK) (E : XK), Room k A → Env0 P w K mg base A outer s H → H f = some (LamO f F e) → H F.c = some (CodeO F.c F.qual) →
    CellsAt F.cl fr ws s.heap H → Vals vs us → sp ws vs H Q E → codeAny (model P w) A (.call (.ref f) ⟨us, []⟩) (CR CX outer P w H s Q E) s
section
variable {CX : CXT} {P : Program} {w : World} {K : PySem.W.Frag} {mg : Str → Option Value} {base : Heap} {N ps fr : List Str} {F : NF} {f : Addr} {k : Nat} {e : Expr} {sp : List (Option V) → Sp}
theorem lok_of (S : NScope N ps fr F.scope) (hb : ∀ (pm ctv : Value) (us : List Value), us.length = ps.length → bindArgs (PySem.W.kla_fn F.name F.qual F.params e F.scope F.cl pm (.ref F.c) ctv) ⟨us, []⟩ = pure (ps.zip us)) (len : ∀ ws vs H Q E, sp ws vs H Q E → vs.length = ps.length)
    (body : ∀ (A : Around) (outer : List Env) (s : Shared) (H : Hp) (vs : List V) (ws : List (Option V)) (Q : VK) (E : XK), Room k (A.deeper (envF F f s.heap.objs.size)) → ws.length = fr.length → sp ws vs H Q E →
      ∃ t, PE (ncx CX P w K mg base N F f A outer s H E) e t ∧ t (startF N vs ws) H Q) : LOk P w K mg base CX (k + 1) f F e ps fr sp := by
  refine ⟨len, fun A outer s H us vs ws Q E hr e0 hf hc C r hsp => ?_⟩
  have hl := len _ _ _ _ _ hsp
  have lim : s.heap.NoLimit := e0.mod.nolimit.keeps fun b o q => (e0.bs b o q).1
  obtain ⟨od, sl, pm, ctv, ho⟩ := lamO_at e0.hok hf
  refine PySem.W.kla_callFunE hr.depth ho rfl S.co S.gen rfl (codeO_at e0.hok hc) ?_
  rw [hb pm ctv us (by rw [← r.length]; exact hl)]
  refine wpAny_pure (wpAny_newFunctionEnv S.nocell (fun ⟨n, _⟩ hy => S.par n (List.of_mem_zip hy).1) (fun h1 hns hsb => ⟨lim.fresh _ hsb, ?_⟩) S.kind)
  show codeAny _ _ (.expr e (envF F f s.heap.objs.size)) _ _
  have kp : ∀ b o, s.heap.get? b = some o → h1.get? b = some o := fun b o q => hsb.extBut b o (Nat.ne_of_lt (Heap.lt_size q)) (Heap.get?_push_of_some _ q)
  obtain ⟨t, ht, hq⟩ := body A outer s H vs ws Q E (hr.deeper _) C.len hsp
  have I : Inv (ncx CX P w K mg base N F f A outer s H E) [] (startF N vs ws) H { s with heap := h1, toks := s.toks + (ps.zip us).length } := inv_startN S hr.hd e0 hl r C hns kp
  refine PySem.W.kla_codeExpr (wpAny_mono (ht.run [] _ (startF N vs ws) H _ I hq) (fun v s' hs => ?_) fun e' s' hs => hs)
  obtain ⟨v', H', J, rv, q⟩ := hs
  exact ⟨v', H', J.os, J.bare, J.base, J.hok, rv, q⟩
end

section
variable {X : Cx} {pins : List (Addr × Obj)} {σ : L2.St} {H : Hp} {s : Shared}
theorem inv_lam {F : NF} {e : Expr} {o : Obj} {t' : Nat} {pm ctv : Value} (I : Inv X pins σ H s) (ho : o = { cls := .type "function", data := .func (PySem.W.kla_fn F.name F.qual F.params e F.scope F.cl pm (.ref F.c) ctv) }) :
    Inv X pins σ (upd H s.heap.objs.size (LamO s.heap.objs.size F e)) { s with heap := s.heap.push o, toks := t' } := by
  subst ho
  have z : (s.heap.push ({ cls := .type "function", data := .func (PySem.W.kla_fn F.name F.qual F.params e F.scope F.cl pm (.ref F.c) ctv) } : Obj)).get? s.heap.objs.size = some _ := Heap.get?_push_size _ rfl
  exact I.laid (a := s.heap.objs.size) (fun b u q => Heap.get?_push_of_some _ q) (Nat.le_refl _) ⟨⟨_, _, pm, ctv, z⟩, ⟨_, z⟩, fun h1 h2 ⟨od, sl, p, t, y⟩ st => ⟨od, sl, p, t, st _ y⟩⟩
abbrev lamF (X : Cx) (params : Arguments) (scope : Scope) (c' : Addr) : NF := ⟨"<lambda>", X.env.qual ++ "<lambda>", params, [], scope, cloFrom X.env.cells scope.names [], c'⟩
/-- a lambda is made -/
theorem lam_make {T : List NTab} {nm : Nat → Nat → Str} {c P : Addr} {params : Arguments} {body : Expr} {scope : Scope} {pos : Pos} {E : Value → Shared → Prop} {Q : Value → Shared → Prop} (I : Inv X pins σ H s) (TB : TabB X.base X.mg c P) (hcode : X.env.code = .ref c)
    (hm : (P, nm) ∈ T) (hn : nm pos.line pos.col = X.env.qual ++ "<lambda>") (hu : ∀ p ∈ T, p.1 = P → p.2 = nm) (hT : TabsN T H) (hdef : defaultsOf params X.env = ([], [])) (hfree : ∀ y ∈ scope.names, y.2 = .free → ∃ c, X.env.cells.lookup y.1 = some c)
    (h : ∀ (f c' : Addr) (G : Hp) (z : Shared), Inv X pins σ G z → ExtN H G → (∀ b, G b = none → H b = none) → TabsN T G → H f = none → G f = some (LamO f (lamF X params scope c') body) → G c' = some (CodeO c' (X.env.qual ++ "<lambda>")) → Q (.ref f) z) :
    wpAny (model X.prog X.w) X.A (eval (.Lambda params body scope pos) X.env) Q E s := by
  obtain ⟨ps, hP, ht, ha⟩ := (show TabN H P nm from hT _ hm)
  refine PySem.W.kla_eval hdef ?_
  have bP : s.heap.BuiltinsAt X.mg P := TB.bm.keeps I.bk
  have oP : s.heap.get? P = some { cls := .none, data := .fields ps } := I.hok P _ hP
  cases hc : codeAmong pos ps.toList with
  | some cv =>
    obtain ⟨c', rfl, hco⟩ := ha pos cv hc
    rw [hn] at hco
    refine PySem.W.kla_makeFunctionHit (mg := X.mg) (c := c) (P := P) (ps := ps) (closure_ok hfree) I.ok.glob (I.mod.glob.keeps I.bk) hcode (TB.code.keeps I.bk) oP ht hc bP fun ctv h' tk hx _ => ?_
    have I1 : Inv X pins σ H { s with heap := h', toks := tk } := I.kept hx
    have nF : H h'.objs.size = none := I1.hok.fresh (Nat.le_refl _)
    have I2 := inv_lam (F := lamF X params scope c') (e := body) (t' := tk) (pm := (X.mg "__name__").getD .none) (ctv := ctv) I1 rfl
    exact h h'.objs.size c' _ _ I2 (fun b o e _ => (upd_ne (ne_of_none e nF)).trans e) (fun b e => upd_none e) (hT.ext fun b o e => (upd_ne (ne_of_none e nF)).trans e) nF upd_same ((upd_ne (ne_of_none hco nF)).trans hco)
  | none =>
    refine PySem.W.kla_makeFunction (mg := X.mg) (c := c) (P := P) (ps := ps) (closure_ok hfree) I.ok.glob (I.mod.glob.keeps I.bk) hcode (TB.code.keeps I.bk) oP ht hc TB.gP bP fun c' ctv h' tk hx hge hlt hrec htb => ?_
    obtain ⟨c2, oc, vs, t, e2, hoc, hd, hv⟩ := hrec
    cases e2
    have nC : H c' = none := I.hok.fresh hge
    obtain ⟨more, emore⟩ : ∃ more : Array Value, more = #[rawInt pos.line, rawInt pos.col, .ref c'] := ⟨_, rfl⟩
    rw [← emore] at htb
    obtain ⟨G, eG⟩ : ∃ G, G = upd (upd H P (.tbl (ps ++ more))) c' (CodeO c' (X.env.qual ++ "<lambda>")) := ⟨_, rfl⟩
    have I1 : Inv X pins σ G { s with heap := h', toks := tk } := by
      rw [eG]
      exact inv_table (t' := tk) (more := more) (h' := h') I hP (fun b o hb e => hx b o hb e) htb hge ⟨oc, vs, t, hoc, hd, hv⟩
    have gE : ExtN H G := fun b o e n => by
      rw [eG, upd_ne (ne_of_none e nC), upd_ne (fun z => n ps (Option.some.inj (e.symm.trans (by rw [z]; exact hP))))]
      exact e
    have gN : ∀ b, G b = none → H b = none := fun b e => by
      rw [eG] at e
      exact upd_none (upd_none e)
    have gC : G c' = some (CodeO c' (X.env.qual ++ "<lambda>")) := by rw [eG]; exact upd_same
    have gP : G P = some (.tbl (ps ++ more)) := by rw [eG, upd_ne (ne_of_none hP nC), upd_same]
    have eL : (ps ++ more).toList = ps.toList ++ [rawInt pos.line, rawInt pos.col, .ref c'] := by rw [emore]; simp
    have gT : TabsN T G := fun p hp => by
      by_cases hb : p.1 = P
      · rw [hu p hp hb, hb]
        refine ⟨_, gP, by rw [eL]; exact PySem.TriplesOk_snoc _ _ _ _ ht, fun p' cv hcv => ?_⟩
        rw [eL] at hcv
        rcases among_app2 _ ht hcv with z | ⟨z, z1, z2⟩
        · obtain ⟨c0, e1, e3⟩ := ha p' cv z
          exact ⟨c0, e1, gE _ _ e3 codeO_ne⟩
        · exact ⟨c', z, by rw [← z1, ← z2, hn]; exact gC⟩
      · obtain ⟨ps', a1, a2, a3⟩ := hT p hp
        refine ⟨ps', by rw [eG, upd_ne (ne_of_none a1 nC), upd_ne hb]; exact a1, a2, fun p' cv hcv => ?_⟩
        obtain ⟨c0, e1, e3⟩ := a3 p' cv hcv
        exact ⟨c0, e1, gE _ _ e3 codeO_ne⟩
    have nF : G h'.objs.size = none := I1.hok.fresh (Nat.le_refl _)
    have I2 := inv_lam (F := lamF X params scope c') (e := body) (t' := tk) (pm := (X.mg "__name__").getD .none) (ctv := ctv) I1 rfl
    refine h h'.objs.size c' _ _ I2 (fun b o e n => (upd_ne (ne_of_none (gE b o e n) nF)).trans (gE b o e n)) (fun b e => gN b (upd_none e)) (gT.ext fun b o e => (upd_ne (ne_of_none e nF)).trans e) (gN _ nF) upd_same ((upd_ne (Nat.ne_of_lt hlt)).trans gC)
end

section
variable {X : Cx}
/-- the value of a lambda -/
def tLam (T : List NTab) (mk : Addr → NF) (e : Expr) : TE := fun _ H Q => TabsN T H ∧ ∀ (f c' : Addr) (G : Hp), ExtN H G → (∀ b, G b = none → H b = none) → TabsN T G → H f = none → G f = some (LamO f (mk c') e) → G c' = some (CodeO c' (mk c').qual) → Q (.ref f) G
theorem pe_lam {T : List NTab} {nm : Nat → Nat → Str} {c P : Addr} {params : Arguments} {body : Expr} {scope : Scope} {pos : Pos} (TB : TabB X.base X.mg c P) (hcode : X.env.code = .ref c) (hm : (P, nm) ∈ T) (hn : nm pos.line pos.col = X.env.qual ++ "<lambda>") (hu : ∀ p ∈ T, p.1 = P → p.2 = nm)
    (hfree : ∀ y ∈ scope.names, y.2 = .free → X.env.scope.names.lookup y.1 = some .cell ∨ X.env.scope.names.lookup y.1 = some .free) (hdef : defaultsOf params X.env = ([], []) := by rfl) : PE X (.Lambda params body scope pos) (tLam T (lamF X params scope) body) := by
  refine ⟨fun pins s σ H Q I h => ?_⟩
  obtain ⟨hT, h⟩ := h
  exact lam_make I TB hcode hm hn hu hT hdef (fun y hy e => (hfree y hy e).elim (fun z => I.ok.has _ (.inl z)) fun z => I.ok.has _ (.inr z)) fun f c' G z J e1 e2 e3 e4 e5 e6 => ⟨.ref f, G, J, rfl, h f c' G e1 e2 e3 e4 e5 e6⟩

/-- a lambda without captured names as a key -/
theorem keys_lam {k : Nat} {f : Addr} {F : NF} {e : Expr} {x : Str} {pre : List PyData → Prop} {g : List PyData → PyData} {H : Hp} {xs : List V} {ds : List PyData} (L : LOk X.prog X.w X.K X.mg X.base CX0 k f F e [x] [] (fun _ => AsSort.spP X.K pre g)) (hr : Room (k + 2) X.A)
    (hf : H f = some (LamO f F e)) (hc : H F.c = some (CodeO F.c F.qual)) (hcl : F.cl = []) (hd : DpAll X.K H xs ds) (hp : ∀ d ∈ ds, pre [d]) : AsSort.Keys X (.ref f) H xs (ds.map fun d => g [d]) := by
  intro pins σ G z i v u d I ex hx hk ru
  rw [List.getElem?_map] at hk
  cases hi : ds[i]? with
  | none => rw [hi] at hk; cases hk
  | some d0 =>
    rw [hi] at hk
    have ed : g [d0] = d := Option.some.inj hk
    have hv : Dp X.K G v d0 := AsSort.dp_ex ex (AsSort.dpAll_get hd hx hi)
    have E0' : Env0 X.prog X.w X.K X.mg X.base X.A.in1.in1 X.stack z G := I.env0.in1.in1
    have C : CellsAt F.cl [] [] z.heap G := by
      rw [hcl]
      exact ⟨rfl, fun _ _ q => (nomatch q), fun _ _ _ q => (nomatch q), fun i y q => (nomatch q)⟩
    refine wpAny_call (codeAny_mono (L.run X.A.in1.in1 X.stack z G [u] [v] [] (fun v G' => Ex G G' ∧ Dp X.K G' v d) E0 hr.in1.in1 E0' (ex _ _ hf) (ex _ _ hc) C (.cons ru .nil) ⟨[d0], .cons hv .nil, hp d0 (List.mem_of_getElem? hi), fun w' G' e' h' => ⟨e', by rw [← ed]; exact h'⟩⟩) fun r s' hq => ?_)
    cases r with
    | error e => exact hq.elim
    | ok fl =>
      cases fl with
      | ret u => exact I.after hq
      | next => exact False.elim hq
      | brk => exact False.elim hq
      | cont => exact False.elim hq

/-- sorted(xs, key=f), f a lambda of the kind that mk tells -/
def rSortLam (K : PySem.W.Frag) (mk : Addr → NF) (e : Expr) (pre : List PyData → Prop) (g : List PyData → PyData) : List V → List V → Hp → VK → Prop := fun vs zs H Q => ∃ (l f c' : Addr) (xs : List V) (ds : List PyData), vs = [.ref l] ∧ zs = [.ref f] ∧ H f = some (LamO f (mk c') e) ∧ H c' = some (CodeO c' (mk c').qual) ∧
  (SqL K H l xs ∨ SqT K H l xs) ∧ DpAll K H xs ds ∧ (∀ d ∈ ds, pre [d]) ∧
  PySem.W.AllAlike (ds.map fun d => g [d]) ∧ PySem.W.Sortable (ds.map fun d => g [d]) ∧ AsSort.immAll (ds.map fun d => g [d]) = true ∧ (∀ d ∈ ds, (g [d]).depth ≤ 50) ∧
  ∀ p ys G, H p = none → Ex H G → G p = some (.lst ys) → DpAll K G ys (AsSort.sortD (fun d => g [d]) ds) → Q (.ref p) G
theorem cr_sortLam {k : Nat} {mk : Addr → NF} {e : Expr} {x : Str} {pre : List PyData → Prop} {g : List PyData → PyData} (L : ∀ f c', LOk X.prog X.w X.K X.mg X.base CX0 k f (mk c') e [x] [] (fun _ => AsSort.spP X.K pre g)) (hr : Room (k + 2) X.A) (hcl : ∀ c', (mk c').cl = []) (hc : ∀ c', (mk c').c = c') :
    CallRK X (.builtin "sorted") [Str.ofString "key"] (rSortLam X.K mk e pre g) := by
  intro pins s σ H vs zs us ws Q I r rz h
  obtain ⟨l, f, c', xs, ds, rfl, rfl, hf, hco, hs, hd, hp, hal, hso, him, hdep, q⟩ := h
  obtain rfl := Vals.ref1 r
  obtain ⟨w1, rfl, e1⟩ := vals1 rz
  obtain rfl : w1 = Value.ref f := e1
  refine AsSort.sorted_run (rev := false) I hs (keys_lam (L f c') hr hf (by rw [hc]; exact hco) (hcl c') hd hp) (by rw [List.length_map, AsSort.dpAll_len hd]) him hal hso (fun d hm => ?_) (PyProof.Rows.ksk_s1 _ _) (fun _ => PyProof.Rows.ksk_l1 _ _) (fun a => PyProof.Rows.ksk_t1 f a) fun p G np e => ?_
  · obtain ⟨d0, h0, rfl⟩ := List.mem_map.mp hm
    have h1 := hdep d0 h0
    have h2 := hr.un
    show X.A.units + 1 + 1 + (g [d0]).depth < cLine
    omega
  · exact q p _ G np ((Ex.new np).trans e) (e _ _ upd_same) (AsSort.dpAll_ex ((Ex.new np).trans e) (AsSort.byKey_dp _ hd))
end
end AsLam

set_option maxHeartbeats 4000000
set_option autoImplicit false
namespace AsKit
open PySem PySem.Spec PyProof.Rows L2 AsSort
open Evl (Ex Ev EvT EvA)
open LamX (ExtN)
theorem seq_extN {K : PySem.W.Frag} {H H' : Hp} {a : Addr} {xs : List V} (e : ExtN H H') (s : SqL K H a xs) : SqL K H' a xs := by
  rcases s with (s | ⟨o, s⟩) | s
  · exact .inl (.inl (e _ _ s fun _ z => nomatch z))
  · exact .inl (.inr ⟨o, e _ _ s fun _ z => nomatch z⟩)
  · exact .inr s
theorem tup_extN {K : PySem.W.Frag} {H H' : Hp} {a : Addr} {xs : List V} (e : ExtN H H') (s : SqT K H a xs) : SqT K H' a xs := by
  rcases s with (s | ⟨o, s⟩) | s
  · exact .inl (.inl (e _ _ s fun _ z => nomatch z))
  · exact .inl (.inr ⟨o, e _ _ s fun _ z => nomatch z⟩)
  · exact .inr s
mutual
theorem dp_extN {K : PySem.W.Frag} {G G' : Hp} (e : ExtN G G') : ∀ {v : V} {d : PyData}, Dp K G v d → Dp K G' v d
  | _, _, .non => .non
  | _, _, .bl b => .bl b
  | _, _, .int i => .int i
  | _, _, .str x => .str x
  | _, _, .lst a b => .lst (seq_extN e a) (dpAll_extN e b)
  | _, _, .tup a b => .tup (tup_extN e a) (dpAll_extN e b)
theorem dpAll_extN {K : PySem.W.Frag} {G G' : Hp} (e : ExtN G G') : ∀ {vs : List V} {ds : List PyData}, DpAll K G vs ds → DpAll K G' vs ds
  | _, _, .nil => .nil
  | _, _, .cons a b => .cons (dp_extN e a) (dpAll_extN e b)
end
theorem extN_ex {H H' : Hp} (e : Ex H H') : ExtN H H' := ExtN.of e
/-- a def of the top, its code object at c -/
def Dfc (K : PySem.W.Frag) (mg : Str → Option Value) (x : Str) (st : Stmt) (c : Addr) : Prop := ∃ f fd, FunD K x x (defArgs st) (defBody st) (defScope st) [] [] f fd ∧ mg x = some (.ref f) ∧ fd.code = .ref c
theorem cl_ofC {P : Program} {w : World} {K : PySem.W.Frag} {mg : Str → Option Value} {base : Heap} {x : Str} {st : Stmt} {N ps : List Str} {k : Nat} {sp : Sp} {c : Addr} (D : Dfc K mg x st c) (S : FnScope N ps (defScope st)) (len : ∀ vs H Q E, sp vs H Q E → vs.length = ps.length)
    (hb : ∀ (kV doc pm : Value) (an : Option Addr) (cdv ct : Value) (us : List Value), us.length = ps.length → bindArgs (PySem.W.fnOf x x (defArgs st) (defBody st) (defScope st) .none kV doc pm an cdv ct) ⟨us, []⟩ = pure (ps.zip us))
    (hbody : ∀ (f : Addr) (A : Around) (outer : List Env) (s : Shared) (H : Hp) (vs : List V) (Q : VK) (E : XK), Room k (A.deeper (envOfC x (defScope st) s.heap.objs.size f (.ref c))) → sp vs H Q E →
      ∃ t, PSs (cxOf CX0 P w K mg base N x (defScope st) f (.ref c) A outer s H E).nox (defBody st) t ∧ t { nx := fun _ H' => Q .non H', rt := Q } (start N vs) H) : Cl P w K mg base (k + 1) x sp [] := by
  obtain ⟨f, fd, F, hm, hc⟩ := D
  refine ⟨f, fd, ps, [], ?_, hm, F.kp, F.bindsN hb, .nil⟩
  obtain ⟨oc, od, dV, kV, doc, pm, an, cdv, ct, osl, rfl, lk, hcd, _, _⟩ := F.ex
  have e : cdv = .ref c := hc
  subst e
  refine fn_of lk hcd S len fun A outer s H vs Q E hr h => ?_
  obtain ⟨t, z, q⟩ := hbody f A outer s H vs Q E hr h
  exact ⟨t, z.nox, q⟩
section
variable {K : PySem.W.Frag} {σ : L2.St} {H : Hp} {to te ta tb : TE}
def rSW : V → List V → Hp → VK → Prop := fun x xs H Q => ∃ a b, x = .str a ∧ xs = [.str b] ∧ Q (.bl (Txt.startswith a b)) H
theorem d_sw {a b : Str} (h : EvD K to σ H (.str a)) (h2 : EvD K te σ H (.str b)) : EvD K (tM1 rSW to te) σ H (.bool (Txt.startswith a b)) := fun H1 e Q q =>
  h H1 e _ fun v H2 x hd => by
    cases hd
    exact ⟨⟨a, rfl⟩, h2 H2 (e.trans x) _ fun w H3 y he => by
      cases he
      exact ⟨a, b, rfl, rfl, q _ H3 (x.trans y) (.bl _)⟩⟩
theorem e_lcL {tl : TE} {t : TT} {gt : TG} {vs : List Nat} {ds : List PyData} (f : PyData → Bool) (g : PyData → PyData) (h : EvD K tl σ H (.list ds)) (hz : ds.length ≤ 50000) (him : ∀ d ∈ ds, f d = true → imm (g d) = true) (ht : ∀ d ∈ ds, Turn K gt t te vs σ H d (f d) (g d)) (H1 : Hp) (a : Ex H H1) (Q : VK)
    (q : ∀ p acc H2, H1 p = none → Ex H1 H2 → H2 p = some (.lst acc) → DpAll K H2 acc ((ds.filter f).map g) → Q (.ref p) H2) : tLc (iList K tl) gt t te vs σ H1 Q := h H1 a _ fun v H2 x hd => by
  cases hd with
  | lst hs hx =>
    refine ⟨_, rfl, ⟨_, hs⟩, fun D hD => lc_list (Cd K H2 ds f g D) (cd_start hD) (fun i H' _ p => Evl.ex_l p.2.1 hs) (fun i y H' hi p => ?_) fun H' p => ?_⟩
    · have hi2 : i < ds.length := by rw [← dpAll_len hx]; exact (List.getElem?_eq_some_iff.mp hi).1
      have hd : ds[i]? = some ds[i] := List.getElem?_eq_getElem hi2
      exact ht ds[i] (List.getElem_mem hi2) y H' (a.trans (x.trans p.2.1)) (dp_ex p.2.1 (dpAll_get hx hi hd)) _ fun σ2 w h1 h2 => ⟨w, cd_turn him p hd hz h1 h2⟩
    · rw [dpAll_len hx] at p
      obtain ⟨p1, p2, acc, p3, p4⟩ := p
      rw [List.take_length] at p4
      exact q D acc H' (Evl.fresh_back x p1) (x.trans p2) p3 p4
end
end AsKit

namespace K27
open PySem PySem.Spec PyProof.Rows L2 AsSort AsKit
open Evl (Ex Ev EvT EvA)
open LamX (ExtN TabB)
open NdefX (TabsN NTab NScope nscope_by NF startF)
section
variable {P : Program} {w : World} {K : PySem.W.Frag} {mg : Str → Option Value} {base : Heap}
/-- the lambda of _law_deeds -/
def lamIn (st : Stmt) : Expr := match defBody st with
  | _ :: .For _ _ (_ :: .Assign _ (.Call _ _ (⟨_, e, _⟩ :: _) _) _ :: _) _ _ :: _ => e
  | _ => .Constant .none 0 ⟨0, 0, 0, 0⟩
def lamPar : Expr → Arguments
  | .Lambda p _ _ _ => p
  | _ => ⟨[], [], none, [], [], none, []⟩
def lamBody : Expr → Expr
  | .Lambda _ b _ _ => b
  | e => e
def lamScope : Expr → Scope
  | .Lambda _ _ s _ => s
  | _ => ⟨.function, [], false, false, []⟩
abbrev lamE : Expr := lamIn sDeedsL
abbrev lamQ : Str := "_law_deeds.<locals>.<lambda>"
def lamF (c' : Addr) : NF := ⟨"<lambda>", lamQ, lamPar lamE, [], lamScope lamE, [], c'⟩
theorem sc_lam : NScope ["kind"] ["kind"] [] (lamScope lamE) := nscope_by (by decide +kernel)
abbrev preK (ds : List PyData) : Prop := ∃ p : Str × Str, ds = [kD p] ∧ p.1.length ≤ 40000 ∧ p.2.length ≤ 40000
theorem lam_ok (hb : Bl mg) (f c' : Addr) : AsLam.LOk P w K mg base CX0 1 f (lamF c') (lamBody lamE) ["kind"] [] (fun _ => spP K preK (one flatK)) := by
  refine AsLam.lok_of sc_lam (fun pm ctv us hl => match us, hl with | [_], _ => rfl) (fun _ => len_sp fun ds ⟨p, h, _⟩ => by rw [h]; rfl) fun A outer s H vs ws Q E hr hw h => ?_
  obtain ⟨ds, hd, ⟨p, rfl, h1, h2⟩, q⟩ := h
  obtain ⟨v, rfl, h0⟩ := dp1 hd
  obtain rfl := List.eq_nil_of_length_eq_zero hw
  refine ⟨_, pe_tup (pa_cons (pe_lenS hb (pe_ix ix_tup (pv 0) pe_int (fun _ _ => rfl))) (pa_cons (pe_ix ix_tup (pv 0) pe_int (fun _ _ => rfl)) (pa_cons (pe_lenS hb (pe_ix ix_tup (pv 0) pe_int (fun _ _ => rfl))) (pa_cons (pe_ix ix_tup (pv 0) pe_int (fun _ _ => rfl)) pa_nil)))), ?_⟩
  have c0 : At K (startF ["kind"] [v] []) H 0 (.tuple [.str p.1, .str p.2]) := ⟨_, rfl, h0⟩
  have i0 := d_ixT (i := 0) (d_var c0) (d_int (i := 0)) rfl
  have i1 := d_ixT (i := 1) (d_var c0) (d_int (i := 1)) rfl
  exact d_tup (ds_cons (d_lenS i0 (by omega)) (ds_cons i0 (ds_cons (d_lenS i1 (by omega)) (ds_cons i1 ds_nil)))) (by show 4 ≤ 100000; decide) H (Ex.refl H) Q q
end
end K27

set_option maxHeartbeats 4000000
set_option autoImplicit false
namespace K27
open PySem PySem.Spec PyProof.Rows L2 AsSort AsKit
open Evl (Ex Ev EvT EvA)
open LamX (ExtN TabB)
open NdefX (TabsN NTab NScope nscope_by NF startF)
section
variable {P : Program} {w : World} {K : PySem.W.Frag} {mg : Str → Option Value} {base : Heap}
theorem kinds_filter (f : PyData → Bool) (g : Str × Str → Bool) (h : ∀ p, f (kD p) = g p) (ps : List (Str × Str)) : (((ps.map kD).filter f).map id) = (ps.filter g).map kD := by
  rw [List.map_id, List.filter_map]
  exact congrArg (List.map kD) (List.filter_congr fun p _ => h p)
abbrev nDeedsL : List Str := ["kinds", "text", "found", "place", "here", "kind", "l", "r"]
theorem sc_deedsL : FnScope nDeedsL ["kinds", "text"] (defScope sDeedsL) := ⟨rfl, rfl, rfl, by decide +kernel, rfl, by decide +kernel, by decide +kernel⟩
def lamTab (T : Addr) : List NTab := [(T, fun _ _ => lamQ)]
def spDeedsL (K : PySem.W.Frag) (Ts : List NTab) : Sp := fun vs H Q _ => ∃ (v : V) (ps : List (Str × Str)) (z : Str), vs = [v, .str z] ∧ Dp K H v (.tuple (ps.map kD)) ∧ z.length ≤ 400 ∧ ps.length ≤ 60 ∧ (∀ p ∈ ps, p.1.length ≤ 40 ∧ p.2.length ≤ 40) ∧ TabsN Ts H ∧
  ∀ (l : Addr) (acc : List V) (H' : Hp), ExtN H H' → TabsN Ts H' → H' l = some (.lst acc) → DpAll K H' acc (deedsL ps z) → Q (.ref l) H'
theorem c_deedsL {c T : Addr} {Ts : List NTab} (hTs : (T, fun _ _ => lamQ) ∈ Ts) (huT : ∀ p ∈ Ts, p.1 = T → p.2 = fun _ _ => lamQ) (D : Dfc K mg "_law_deeds" sDeedsL c) (hb : Bl mg) (TB : TabB base mg c T) : Cl P w K mg base 5 "_law_deeds" (spDeedsL K Ts) [] := by
  refine cl_ofC D sc_deedsL (fun vs H Q E ⟨v, ps, z, h, _⟩ => by rw [h]; rfl) (fun _ _ _ _ _ _ us hl => match us, hl with | [_, _], _ => rfl) fun f A outer s H vs Q E hr h => ?_
  obtain ⟨v, ps, z, rfl, h0, hz, hp, hps, hT, q⟩ := h
  refine ⟨_, pss_cons (ps_set (i := 2) sc_deedsL.nd rfl (.inl rfl) (pe_lst pa_nil))
    (pss_cons (ps_for PassesOwn.never rfl (pi_range1 (by rfl) (hb _ (by decide +kernel)) (pa_cons (pe_op op_add (pe_lenS hb (pv 1)) pe_int) pa_nil)) (pg_name (i := 3) sc_deedsL.nd rfl (.inr rfl))
      (pss_cons (ps_setLcn (i := 4) 5 sc_deedsL.nd (pi_tup (pv 0)) (fun _ _ _ _ _ => pts_one (pt_val (pe_m1 PySem.F.slot_str_startswith PySem.F.type_str_startswith mt_startswith (pe_slice sl_str (pv 1) (po_some (pv 3)) po_none) (pe_ix (r := rIxT K) ix_tup (pv 5) pe_int (fun _ _ => rfl))))) (fun _ _ _ _ _ => pv 5) (fun _ _ _ _ _ => pg_name sc_deedsL.nd rfl (.inl rfl)) (blkOk_by (N := nDeedsL) (sc := defScope sDeedsL) (own := [("kind", 5)]) (by decide +kernel)) rfl rfl rfl (sw_true rfl rfl rfl (by decide +kernel)))
      (pss_cons (ps_set (i := 4) sc_deedsL.nd rfl (.inl rfl) (pe_callBK (AsLam.cr_sortLam (mk := lamF) (e := lamBody lamE) (fun f c' => lam_ok hb f c') (hr.mono (by decide)) (fun _ => rfl) (fun _ => rfl)) (by rfl) (hb _ (by decide +kernel)) (by decide +kernel) (pa_cons (pv 4) pa_nil)
          (pk_cons (AsLam.pe_lam (T := Ts) (nm := fun _ _ => lamQ) TB rfl hTs rfl huT (fun y hy e => nomatch (sc_lam.free y hy e))) pk_nil)))
      (pss_one (ps_set (i := 2) sc_deedsL.nd rfl (.inl rfl) (pe_op op_cat (pv 2) (pe_lc (own := [("l", 6), ("r", 7)]) (g := gTup K 2 (gCons (gName 6) (gCons (gName 7) gNil))) rfl sc_deedsL.nd (pi_list (pv 4)) (blkOk_by (N := nDeedsL) (sc := defScope sDeedsL) (own := [("l", 6), ("r", 7)]) (by decide +kernel))
          (fun _ _ _ _ _ => pg_tup rfl (pgs_cons (pg_name (i := 6) sc_deedsL.nd rfl (.inl rfl) (.inr rfl)) (pgs_cons (pg_name (i := 7) sc_deedsL.nd rfl (.inl rfl) (.inr rfl)) pgs_nil))) (fun _ _ _ _ _ => pts_nil) (fun _ _ _ _ _ => pe_tup (pa_cons (pv 3) (pa_cons (pv 6) (pa_cons (pv 7) pa_nil)))))))))))
    (pss_one (ps_ret (pv 2)))), ?_⟩
  refine ⟨Evl.sz_of (Nat.zero_le _), fun l nl => ?_⟩
  have hos := sortO_len ps
  have hz2 : z.cps.toList.length = z.length := Array.length_toList
  have a1 : ∀ (x2 x3 x4 x5 x6 x7 : Option V) (H' : Hp), At K [some v, some (.str z), x2, x3, x4, x5, x6, x7] H' 1 (.str z) := fun _ _ _ _ _ _ _ => ⟨_, rfl, .str z⟩
  refine Evl.q_forR1 (n := (z.length : Int) + 1) (ds_ev (K := K) (ds_cons (d_arI (g := fun i j => i + j) (d_lenS (d_var (a1 _ _ _ _ _ _ _)) (by omega)) d_int) ds_nil)) (by omega)
    (fun i σ' H' => ∃ l acc x3 x4 x5 x6 x7, σ' = [some v, some (.str z), some (.ref l), x3, x4, x5, x6, x7] ∧ ExtN H H' ∧ TabsN Ts H' ∧ H' l = some (.lst acc) ∧ DpAll K H' acc (hitsTo (sortO ps) z i))
    (fun H1 e1 => ⟨l, [], _, _, _, _, _, rfl, (extN_ex (Ex.new nl)).trans (extN_ex e1), (hT.ext (Ex.new nl)).ext e1, e1 _ _ upd_same, .nil⟩) (fun i σ' H' hi hW => ?_) fun σ' H' hW => ?_
  · obtain ⟨l, acc, x3, x4, x5, x6, x7, rfl, eN, hT1, hl, hacc⟩ := hW
    have hi2 : i ≤ z.length := by omega
    have hv : Dp K H' v (.tuple (ps.map kD)) := dp_extN eN h0
    refine AsKit.q_asg (K := K) (d_eqTo (d_lcT (fun d => Txt.startswith (cutS z (some (i : Int)) none) (pairOf d).1) id (d_var ⟨_, rfl, hv⟩) (by rw [List.length_map]; omega) (fun d hd _ => ?_) fun d hd x H2 e2 hx k hk => hk _ rfl (t_ofB (K := K) ?_) fun _ => d_var ⟨_, rfl, hx⟩)
      (congrArg PyData.list (kinds_filter _ (hitB z i) (fun p => hit_starts z i p) ps))) fun v4 H1 e1 h4 => ?_
    · obtain ⟨p, _, rfl⟩ := List.mem_map.mp hd
      rfl
    · obtain ⟨p, hp1, rfl⟩ := List.mem_map.mp hd
      exact d_sw (d_slS (d_var ⟨_, rfl, .str z⟩) (p_some (d_var ⟨_, rfl, .int _⟩)) p_none (by omega)) (d_ixT (d_var ⟨_, rfl, hx⟩) d_int rfl)
    -- sorted
    refine ⟨v4, rfl, hT1.ext e1, fun fl cl G n1 _ t3 _ n5 n6 => ?_⟩
    have h4G := dp_extN n1 h4
    cases h4G with
    | lst hq hx =>
      have hfl : (ps.filter (hitB z i)).length ≤ ps.length := List.length_filter_le _ _
      refine ⟨_, fl, cl, _, _, rfl, rfl, n5, n6, .inl hq, hx, fun d hd => ?_, fun d hd d' hd' => ?_, .inl fun d hd => ?_, ?_, fun d hd => ?_, fun p ys G2 np e2 hp2 hys => ?_⟩
      · obtain ⟨p, hp1, rfl⟩ := List.mem_map.mp hd
        have z1 := hps p (List.mem_filter.mp hp1).1
        exact ⟨p, rfl, by omega, by omega⟩
      · obtain ⟨x, hx, rfl⟩ := List.mem_map.mp hd
        obtain ⟨y, hy, rfl⟩ := List.mem_map.mp hd'
        exact fK_alike _ _
      · obtain ⟨x, hx, rfl⟩ := List.mem_map.mp hd
        exact ⟨_, _, rfl⟩
      · refine immAll_of fun d hd => ?_
        obtain ⟨x, hx, rfl⟩ := List.mem_map.mp hd
        rfl
      · obtain ⟨x, hx, rfl⟩ := List.mem_map.mp hd
        show (fK (pairOf (kD x))).depth ≤ 50
        simp [fK, PyData.depth, PyData.depthAll]
      rw [sortD_flat, ← sortO_filter] at hys
      have hl2 : G2 l = some (.lst acc) := e2 _ _ (n1 _ _ (e1 _ _ hl) fun _ z => nomatch z)
      have hacc2 : DpAll K G2 acc (hitsTo (sortO ps) z i) := dpAll_ex e2 (dpAll_extN n1 (dpAll_ex e1 hacc))
      have eN2 : ExtN H G2 := eN.trans ((extN_ex e1).trans (n1.trans (extN_ex e2)))
      have l1 := hitsTo_len (sortO ps) z i
      have l4 : i * (sortO ps).length ≤ 400 * 60 := Nat.mul_le_mul (by omega) (by omega)
      have l5 : ((sortO ps).filter (hitB z i)).length ≤ (sortO ps).length := List.length_filter_le _ _
      refine ⟨.ref l, rfl, ?_⟩
      refine e_lcL (K := K) (H := G2) (ds := ((sortO ps).filter (hitB z i)).map kD) (fun _ => true) (fun d => dD i (pairOf d)) (d_var ⟨_, rfl, .lst (Evl.sq_of hp2) hys⟩) (by rw [List.length_map]; omega) (fun d hd _ => ?_) (fun d hd x H3 e3 hx k hk => ?_) G2 (Ex.refl G2) _ fun p2 acc2 H3 np2 e3 hp3 hd3 => ?_
      · rfl
      · obtain ⟨kk, hkk, rfl⟩ := List.mem_map.mp hd
        exact g_two hx fun va vb ha hb2 => hk _ rfl (fun H3 e3 Q q => q H3 (Ex.refl H3)) fun _ => d_tup (ds_cons (d_var ⟨_, rfl, .int _⟩) (ds_cons (d_var ⟨_, rfl, ha⟩) (ds_cons (d_var ⟨_, rfl, hb2⟩) ds_nil))) (by show 3 ≤ 100000; decide)
      · have ed : ((((sortO ps).filter (hitB z i)).map kD).filter fun _ => true).map (fun d => dD i (pairOf d)) = hits (sortO ps) z i := by
          rw [List.filter_eq_self.mpr fun _ _ => rfl, List.map_map]
          rfl
        rw [ed] at hd3
        have l6 := hits_len (sortO ps) z i
        refine ⟨l, p2, acc, acc2, rfl, rfl, e3 _ _ hl2, hp3, Evl.sz_of (by rw [dpAll_len hacc2, dpAll_len hd3]; omega), fun pn npn => ?_⟩
        refine ⟨pn, acc ++ acc2, _, _, _, _, _, rfl, eN2.trans ((extN_ex e3).trans (extN_ex (Ex.new npn))), (((t3.ext e2).ext e3).ext (Ex.new npn)), upd_same, ?_⟩
        rw [hitsTo_succ]
        have app : ∀ {xs ys : List V} {ds es : List PyData}, DpAll K (upd H3 pn (.lst (acc ++ acc2))) xs ds → DpAll K (upd H3 pn (.lst (acc ++ acc2))) ys es → DpAll K (upd H3 pn (.lst (acc ++ acc2))) (xs ++ ys) (ds ++ es) := by
          intro xs
          induction xs with
          | nil =>
            intro ys ds es h1 h2
            cases h1
            exact h2
          | cons x xs ih =>
            intro ys ds es h1 h2
            cases h1 with
            | cons u t => exact .cons u (ih t h2)
        exact app (dpAll_ex (Ex.new npn) (dpAll_ex e3 hacc2)) (dpAll_ex (Ex.new npn) hd3)
  · obtain ⟨l, acc, x3, x4, x5, x6, x7, rfl, eN, hT1, hl, hacc⟩ := hW
    have en : ((z.length : Int) + 1).toNat = z.length + 1 := by omega
    rw [en] at hacc
    exact ⟨_, rfl, q l acc H' eN hT1 hl hacc⟩
end
end K27

set_option maxHeartbeats 4000000
set_option autoImplicit false
/-! defs that raise an exception of the program's own, made without arguments. -/
namespace AsKit
open PySem PySem.Spec PyProof.Rows L2 AsSort
open Evl (Ex Ev EvT EvA)
theorem pmk_own0 {X : Cx} {C : Addr} {bmB : List Value} {B newId initId : String} {x : Str} {p pos : Pos} (F : ExcBaseFacts B newId initId bmB) (q : PySem.W.excIn X.K C bmB newId = true) (gC : X.mg x = some (.ref C)) (kC : PySem.W.keepIn X.K (.ref C) = true) (r : Raises X (.ref C)) (hg : Gl X x)
    (hdb : (x == ("__debug__" : Str)) = false := by decide) : PMk X (.Call (.Name x p) [] [] pos) (fun _ H Q => Q (.ref C) none H) := by
  intro pins s σ H Q I h
  refine wpAny_Call_Name_kw (ld_glob I hg gC ?_ hdb)
  refine PySem.W.callWith_K0 I.kIn kC ?_
  show wpAny _ _ (call (.ref C) []) _ _ _
  obtain ⟨bm, N, nm, qn, bs, hdct, sn, sub, ab, col, dd, k0, k1, k2, k3, k5, mN, hC, hN, hni, T⟩ := exc_obj I.kIn q
  refine wpAny_call_exc_subT F T hC hN hni (fun h' e hm => ?_) (Nat.zero_le _)
  exact mk_of I hm r h (I.hok.gone hm.new)
/-- a class of the top, over ValueError, without its own __init__ -/
structure Ec (K : PySem.W.Frag) (mg : Str → Option Value) (x : Str) (C : Addr) : Prop where
  g : mg x = some (.ref C)
  ex : PySem.W.excIn K C [.type "ValueError", .type "Exception", .type "BaseException", .type "object"] "ValueError.__new__" = true
  kp : PySem.W.keepIn K (.ref C) = true
  sb : PySem.W.subIn K (.ref C) (.type "BaseException") = some true
  ty : PySem.W.typeIn K (.ref C) = some (.type "type")
theorem ps_raise0 {X : Cx} {x : Str} {C : Addr} {W : WX} {p pos pos2 : Pos} (c : Ec X.K X.mg x C) (hc : X.calm = true) (tk : Takes X W) (hg : Gl X x) (hdb : (x == ("__debug__" : Str)) = false := by decide) : PS X (.Raise (some (.Call (.Name x p) [] [] pos)) none pos2) (fun _ σ H => W (.ref C) none σ H) :=
  ps_raise hc tk (pmk_own0 PySem.F.excBase_ValueError c.ex c.g c.kp (raises_own c.sb c.ty) hg hdb)
/-- a def that may raise -/
def Klx (P : Program) (w : World) (K : PySem.W.Frag) (mg : Str → Option Value) (base : Heap) (k : Nat) (x : Str) (ps : List Str) (sp : Sp) : Prop := ∃ f fd, FnOk P w K mg base (L2.CX P w) k f fd ps sp ∧ mg x = some (.ref f) ∧ PySem.W.keepIn K (.ref f) = true ∧ Binds K fd ps []
theorem klx_of {P : Program} {w : World} {K : PySem.W.Frag} {mg : Str → Option Value} {base : Heap} {x : Str} {st : Stmt} {N ps : List Str} {k : Nat} {sp : Sp} (D : Df K mg x st) (S : FnScope N ps (defScope st)) (len : ∀ vs H Q E, sp vs H Q E → vs.length = ps.length)
    (hb : ∀ (kV doc pm : Value) (an : Option Addr) (cdv ct : Value) (us : List Value), us.length = ps.length → bindArgs (PySem.W.fnOf x x (defArgs st) (defBody st) (defScope st) .none kV doc pm an cdv ct) ⟨us, []⟩ = pure (ps.zip us))
    (hbody : ∀ (f : Addr) (cdv : Value) (A : Around) (outer : List Env) (s : Shared) (H : Hp) (vs : List V) (Q : VK) (E : XK), Room k (A.deeper (envOfC x (defScope st) s.heap.objs.size f cdv)) → sp vs H Q E →
      ∃ t, PSs (cxOf (L2.CX P w) P w K mg base N x (defScope st) f cdv A outer s H E) (defBody st) t ∧ t { nx := fun _ H' => Q .non H', rt := Q } (start N vs) H) : Klx P w K mg base (k + 1) x ps sp := by
  obtain ⟨f, fd, F, hm⟩ := D
  exact ⟨f, fd, F.ok S len fun cdv A outer s H vs Q E hr h => hbody f cdv A outer s H vs Q E hr h, hm, F.kp, F.bindsN hb⟩
/-- the promise of a check: nothing where all is right, else the exception of the class at C -/
def spCk (K : PySem.W.Frag) (pre : List PyData → Prop) (ok : List PyData → Bool) (C : Addr) : Sp := fun vs H Q E => ∃ ds, DpAll K H vs ds ∧ pre ds ∧ (ok ds = true → ∀ H', Ex H H' → Q .non H') ∧ (ok ds = false → ∀ H', Ex H H' → E (.ref C) none H')
theorem len_ck {K : PySem.W.Frag} {pre : List PyData → Prop} {ok : List PyData → Bool} {C : Addr} {n : Nat} (h : ∀ ds, pre ds → ds.length = n) : ∀ vs H Q E, spCk K pre ok C vs H Q E → vs.length = n := fun vs H Q E ⟨ds, a, b, _⟩ => (dpAll_len a).trans (h ds b)
end AsKit

set_option maxHeartbeats 4000000
set_option autoImplicit false
/-! the checks as defs that raise. -/
namespace K27
open PySem PySem.Spec PyProof.Rows L2 AsSort AsKit
open Evl (Ex Ev EvT EvA)
section
variable {P : Program} {w : World} {K : PySem.W.Frag} {mg : Str → Option Value} {base : Heap}
def okL1 : List PyData → Bool
  | [d] => isLettersD d
  | _ => false
abbrev spXLetters (K : PySem.W.Frag) (C : Addr) : Sp := spCk K (fun ds => ∃ d, ds = [d] ∧ Tx d) okL1 C
theorem x_check_letters {C : Addr} (D : Df K mg "check_letters" sCheckLetters) (c : Ec K mg "BadLetters" C) (C1 : Cl P w K mg base 1 "is_letters" (spIsLetters K) []) : Klx P w K mg base 2 "check_letters" ["letters"] (spXLetters K C) := by
  refine klx_of D sc_check_letters (len_ck fun ds ⟨d, h, _⟩ => by rw [h]; rfl) (fun _ _ _ _ _ _ us hl => match us, hl with | [_], _ => rfl) fun f cdv A outer s H vs Q E hr h => ?_
  obtain ⟨ds, hd, ⟨d, rfl, ht⟩, q1, q2⟩ := h
  obtain ⟨v, rfl, h0⟩ := dp1 hd
  refine ⟨_, pss_one (ps_if (pt_not (pt_val (C8.pe_c C1 hr (by decide) (by rfl) (pa_cons (pv 0) pa_nil)))) (pss_one (ps_raise0 c rfl (takes_of rfl rfl rfl rfl) (by rfl))) pss_nil), ?_⟩
  exact Evl.s_if (b := !(isLettersD d)) (Evl.et_not (t_ofB (d_call (ds_cons (d_var ⟨_, rfl, h0⟩) ds_nil) ⟨d, rfl, ht⟩))) (fun hb1 H1 e1 => q2 ((Bool.not_eq_true' _).mp hb1) H1 e1) fun hb1 H1 e1 => q1 ((Bool.not_eq_false' _).mp hb1) H1 e1
def okT2 : List PyData → Bool
  | [.str y, d] => withinD y 40 d
  | _ => false
abbrev spXText (K : PySem.W.Frag) (C : Addr) : Sp := spCk K (fun ds => ∃ y d, ds = [.str y, d] ∧ Tx d) okT2 C
theorem x_check_text {C : Addr} (D : Df K mg "check_text" sCheckText) (c : Ec K mg "BadText" C) (g40 : Gn mg "LONGEST_TEXT" 40) (C1 : Cl P w K mg base 2 "is_text_within" (spIsTextWithin K) []) : Klx P w K mg base 3 "check_text" ["letters", "text"] (spXText K C) := by
  refine klx_of D sc_check_text (len_ck fun ds ⟨y, d, h, _⟩ => by rw [h]; rfl) (fun _ _ _ _ _ _ us hl => match us, hl with | [_, _], _ => rfl) fun f cdv A outer s H vs Q E hr h => ?_
  obtain ⟨ds, hd, ⟨y, d, rfl, ht⟩, q1, q2⟩ := h
  obtain ⟨v, v2, rfl, h0, h1⟩ := dp2 hd
  refine ⟨_, pss_one (ps_if (pt_not (pt_val (C8.pe_c C1 hr (by decide) (by rfl) (pa_cons (pv 0) (pa_cons (pv 1) (pa_cons (pe_gn g40) pa_nil)))))) (pss_one (ps_raise0 c rfl (takes_of rfl rfl rfl rfl) (by rfl))) pss_nil), ?_⟩
  exact Evl.s_if (b := !(withinD y 40 d)) (Evl.et_not (t_ofB (d_call (ds_cons (d_var ⟨_, rfl, h0⟩) (ds_cons (d_var ⟨_, rfl, h1⟩) (ds_cons d_int ds_nil))) ⟨y, d, 40, rfl, ht⟩))) (fun hb1 H1 e1 => q2 ((Bool.not_eq_true' _).mp hb1) H1 e1) fun hb1 H1 e1 => q1 ((Bool.not_eq_false' _).mp hb1) H1 e1
def okK2 : List PyData → Bool
  | [.str y, d] => lotD y d
  | _ => false
abbrev spXKinds (K : PySem.W.Frag) (C : Addr) : Sp := spCk K (fun ds => ∃ y d, ds = [.str y, d] ∧ TxL d) okK2 C
theorem x_check_kinds {C : Addr} (D : Df K mg "check_kinds" sCheckKinds) (c : Ec K mg "BadKinds" C) (C1 : Cl P w K mg base 4 "is_lot" (spIsLot K) []) : Klx P w K mg base 5 "check_kinds" ["letters", "kinds"] (spXKinds K C) := by
  refine klx_of D sc_check_kinds (len_ck fun ds ⟨y, d, h, _⟩ => by rw [h]; rfl) (fun _ _ _ _ _ _ us hl => match us, hl with | [_, _], _ => rfl) fun f cdv A outer s H vs Q E hr h => ?_
  obtain ⟨ds, hd, ⟨y, d, rfl, ht⟩, q1, q2⟩ := h
  obtain ⟨v, v2, rfl, h0, h1⟩ := dp2 hd
  refine ⟨_, pss_one (ps_if (pt_not (pt_val (C8.pe_c C1 hr (by decide) (by rfl) (pa_cons (pv 0) (pa_cons (pv 1) pa_nil))))) (pss_one (ps_raise0 c rfl (takes_of rfl rfl rfl rfl) (by rfl))) pss_nil), ?_⟩
  exact Evl.s_if (b := !(lotD y d)) (Evl.et_not (t_ofB (d_call (ds_cons (d_var ⟨_, rfl, h0⟩) (ds_cons (d_var ⟨_, rfl, h1⟩) ds_nil)) ⟨y, d, rfl, ht⟩))) (fun hb1 H1 e1 => q2 ((Bool.not_eq_true' _).mp hb1) H1 e1) fun hb1 H1 e1 => q1 ((Bool.not_eq_false' _).mp hb1) H1 e1
/-- letters, kinds, text: which is wrong first; R, what is asked where all are right -/
def Ck3 (CL CK CT : Addr) (l k t : PyData) (H : Hp) (E : XK) (R : Hp → Prop) : Prop := Tx l ∧ (isLettersD l = false → ∀ H', Ex H H' → E (.ref CL) none H') ∧ ∀ y, l = .str y → isLetS y = true → TxL k ∧ (lotD y k = false → ∀ H', Ex H H' → E (.ref CK) none H') ∧
  (lotD y k = true → Tx t ∧ (withinD y 40 t = false → ∀ H', Ex H H' → E (.ref CT) none H') ∧ (withinD y 40 t = true → ∀ H', Ex H H' → R H'))
theorem Ck3.ex {CL CK CT : Addr} {l k t : PyData} {H H1 : Hp} {E : XK} {R : Hp → Prop} (h : Ck3 CL CK CT l k t H E R) (e : Ex H H1) : Ck3 CL CK CT l k t H1 E R :=
  ⟨h.1, fun a H' x => h.2.1 a H' (e.trans x), fun y e1 e2 => let ⟨a, b, c⟩ := h.2.2 y e1 e2; ⟨a, fun z H' x => b z H' (e.trans x), fun z => let ⟨u, v, w⟩ := c z; ⟨u, fun z H' x => v z H' (e.trans x), fun z H' x => w z H' (e.trans x)⟩⟩⟩
def spX3 (K : PySem.W.Frag) (CL CK CT : Addr) : Sp := fun vs H Q E => ∃ l k t, DpAll K H vs [l, k, t] ∧ Ck3 CL CK CT l k t H E (fun H' => Q .non H')
theorem letters_str {l : PyData} (h : isLettersD l = true) : ∃ y, l = .str y ∧ isLetS y = true := by
  cases l with
  | str y => exact ⟨y, rfl, h⟩
  | _ => cases h
theorem x_check_deeds_of {CL CK CT : Addr} (D : Df K mg "check_deeds_of" sCheckDeedsOf) (C1 : Klx P w K mg base 2 "check_letters" ["letters"] (spXLetters K CL)) (C2 : Klx P w K mg base 5 "check_kinds" ["letters", "kinds"] (spXKinds K CK)) (C3 : Klx P w K mg base 3 "check_text" ["letters", "text"] (spXText K CT)) :
    Klx P w K mg base 6 "check_deeds_of" ["letters", "kinds", "text"] (spX3 K CL CK CT) := by
  refine klx_of D sc_check_deeds_of (fun vs H Q E ⟨l, k, t, h, _⟩ => dpAll_len h) (fun _ _ _ _ _ _ us hl => match us, hl with | [_, _, _], _ => rfl) fun f cdv A outer s H vs Q E hr h => ?_
  obtain ⟨l, k, t, hd, o1, o2, o3⟩ := h
  obtain ⟨v, v2, v3, rfl, h0, h1, h2⟩ := dp3 hd
  obtain ⟨f1, fd1, F1, m1, k1, b1⟩ := C1
  obtain ⟨f2, fd2, F2, m2, k2, b2⟩ := C2
  obtain ⟨f3, fd3, F3, m3, k3, b3⟩ := C3
  refine ⟨_, pss_cons (ps_expr (pe_call F1 (hr.mono (by decide)) (by rfl) m1 k1 b1 .nil (passes_call (takes_of rfl rfl rfl rfl) fun _ _ _ _ h => h) (pa_cons (pv 0) pa_nil)))
    (pss_cons (ps_expr (pe_call F2 (hr.mono (by decide)) (by rfl) m2 k2 b2 .nil (passes_call (takes_of rfl rfl rfl rfl) fun _ _ _ _ h => h) (pa_cons (pv 0) (pa_cons (pv 1) pa_nil))))
    (pss_one (ps_expr (pe_call F3 (hr.mono (by decide)) (by rfl) m3 k3 b3 .nil (passes_call (takes_of rfl rfl rfl rfl) fun _ _ _ _ h => h) (pa_cons (pv 0) (pa_cons (pv 2) pa_nil)))))), ?_⟩
  refine ⟨v, rfl, [l], .cons h0 .nil, ⟨l, rfl, o1⟩, fun ok H1 e1 => ?_, fun no H1 e1 => o2 no H1 e1⟩
  obtain ⟨y, rfl, hy⟩ := letters_str ok
  obtain ⟨p1, p2, p3⟩ := o3 y rfl hy
  refine ⟨v, rfl, v2, rfl, [.str y, k], .cons (dp_ex e1 h0) (.cons (dp_ex e1 h1) .nil), ⟨y, k, rfl, p1⟩, fun ok2 H2 e2 => ?_, fun no H2 e2 => p2 no H2 (e1.trans e2)⟩
  obtain ⟨r1, r2, r3⟩ := p3 ok2
  exact ⟨v, rfl, v3, rfl, [.str y, t], .cons (dp_ex (e1.trans e2) h0) (.cons (dp_ex (e1.trans e2) h2) .nil), ⟨y, t, rfl, r1⟩, fun ok3 H3 e3 => r3 ok3 H3 ((e1.trans e2).trans e3), fun no H3 e3 => r2 no H3 ((e1.trans e2).trans e3)⟩
end
end K27

set_option maxHeartbeats 4000000
set_option autoImplicit false
/-! an own exception over ValueError whose __init__ says super().__init__(a text), then stores one field. -/
namespace AsToo
open PySem PySem.Spec PyProof.Rows L2 NdefX
/-- what the written part says of the __init__ at f, of its class at C, its cell cc, its code object cda -/
structure SupF (P : Program) (K : PySem.W.Frag) (mg : Str → Option Value) (C f cc cda : Addr) (qual : Str) : Prop where
  cd : PySem.W.codeIn K (.ref cda) qual = true
  code : ∃ (ccl : Value) (cdd : Option Addr) (vs : Array Value) (ccs : Array (Option Value)) (file : Str) (tf : Tok), K.lookup cda = some ⟨ccl, cdd, .fields vs, ccs⟩ ∧ vs[2]? = some (.str file tf) ∧ ((P.main.file : Str) == file) = true
  cell : ∃ (cl : Value) (cld : Option Addr) (csl : Array (Option Value)), K.lookup cc = some ⟨cl, cld, .cell (some (.ref C)), csl⟩
  hD : ∃ cd, PySem.W.clsIn K C = some cd
  mro : PySem.W.mroIn K C (.ref C) = some true
  top : (P.main.scope.names.lookup ("super" : Str)).isSome = false
  al : PySem.W.ks_superIn K C C "__init__" = some (some (.builtin "ValueError.__init__"))
  opq : PySem.W.nsIn K cStatics "thirdparty.any" = some none
  ve : PySem.W.subIn K (.ref C) (.type "ValueError") = some true
  sup : mg "super" = none
  ox : OexC K C
abbrev bodyT (jl : List Expr) (pj : Pos) (p0 p1 p2 p3 p4 p5 p6 p7 p8 : Pos) : List Stmt :=
  [.Expr (.Call (.Attribute (.Call (.Name "super" p0) [] [] p1) "__init__" p2) [.JoinedStr jl pj] [] p3) p4, .Assign [.Attribute (.Name "self" p5) "most" p6] (.Name "most" p7) p8]
/-- what it promises -/
def spToo (K : PySem.W.Frag) (C : Addr) : Sp := fun vs H Q _ => ∃ (e : Addr) (m : Int), vs = [.ref e, .int m] ∧ m.natAbs.log2 < 100 ∧ H e = some (exo e C none) ∧ ∀ dx, H dx = none → dx ≠ e → Q .non (upd (upd H dx (exd dx [("most", .int m)])) e (exo e C (some dx)))
section
variable {X : Cx} {pins : List (Addr × Obj)} {σ : L2.St} {H : Hp} {s : Shared}
theorem pin_more {u : Addr} {o : Obj} {h' : Heap} {t' : Nat} (I : Inv X pins σ H s) (hu : s.heap.objs.size ≤ u) (k : ∀ b o, s.heap.get? b = some o → h'.get? b = some o) (e : h'.get? u = some o) (nc : ∀ v, o.data ≠ .cell v) : Inv X ((u, o) :: pins) σ H { s with heap := h', toks := t' } := by
  have J : Inv X pins σ H { s with heap := h', toks := t' } := I.kept k
  refine { J with pin := fun p hp => ?_ }
  rcases List.mem_append.mp hp with z | z
  · exact J.pin p (List.mem_append_left _ z)
  · rcases List.mem_cons.mp z with rfl | z
    · refine ⟨e, I.hok.fresh hu, fun q => ?_, I.nofs hu, nc⟩
      have h1 := I.lt
      have q' : u = X.env.locals := q
      rw [← q'] at h1
      exact absurd (Nat.lt_of_lt_of_le h1 hu) (Nat.lt_irrefl _)
    · exact J.pin p (List.mem_append_right _ z)
theorem pin_less {q : Addr × Obj} (I : Inv X (q :: pins) σ H s) : Inv X pins σ H s := { I with pin := fun p hp => I.pin p ((List.mem_append.mp hp).elim (fun z => List.mem_append_left _ z) fun z => List.mem_append_right _ (List.mem_cons_of_mem _ z)) }
/-- the bound __init__ called -/
theorem wrap_call {A : Around} {E : Value → Shared → Prop} {u e C : Addr} {us : List Value} {Q : Value → Shared → Prop} (T : OexC X.K C) (I : Inv X pins σ H s) (he : H e = some (exo e C none)) (hu : s.heap.get? u = some (PySem.W.kxs_mw "ValueError.__init__" e)) (hl : us.length ≤ sizeLine) (h : ∀ s', Inv X pins σ H s' → Q .none s') :
    wpAny (model X.prog X.w) A (call (.ref u) us) Q E s := by
  obtain ⟨nm, q, N, bs, bm, sn, sub, ab, col, dd, k0, k1, k2, k3, k5, hC, hbm⟩ := T.cls
  obtain ⟨t1, ho⟩ := exo_at I.hok he
  obtain ⟨hp, g, d, t, os⟩ := s
  have eu : upd H e (exo e C none) = H := funext fun b => by
    by_cases hb : b = e
    · rw [hb, upd_same, he]
    · exact upd_ne hb
  refine wpAny_call (codeAny_of_tree ?_)
  show wpAny _ A.in1 (callAny (.ref u) ⟨us, []⟩) _ _ _
  simp only [callAny]
  refine wpAny_bind (wpAny_load hu ?_)
  have y : (Value.type "method-wrapper" == Value.type "method" || Value.type "method-wrapper" == Value.type "builtin_function_or_method"
    || Value.type "method-wrapper" == Value.type "method-wrapper") = true := by decide
  simp only [PySem.W.kxs_mw, y, if_true]
  refine PySem.W.KFB.if_so (by decide) ?_
  refine wpAny_bind (PySem.W.check_bound_init F.excBase_ValueError.toExcCallFacts (I.kIn _ _ hC) ho rfl ?_)
  refine wpAny_bind (wpAny_pure (wpAny_pure ?_))
  refine ⟨plainId_quiet F.excBase_ValueError.init.plain _, codeAny_builtin F.excBase_ValueError.initEntry ?_⟩
  refine PySem.W.exc_init_tree (cls := .ref C) (t0 := t1) (dv := none) (c2 := .none) (c3 := .none) (b4 := .bool false) ho hl fun h' k hx _ => ?_
  have J := I.write (t' := t) (x := e) (e := e) (o := exo e C none) (by rw [he]; exact True.intro) (.inl rfl) k ⟨_, hx⟩ (exo_ok hx)
  rw [eu] at J
  exact h _ J
end
theorem one_look {k y : Str} {c d : Addr} (h : [(k, c)].lookup y = some d) : y = k ∧ d = c := by
  rw [List.lookup_cons] at h
  cases q : (y == k) with
  | true =>
    rw [q] at h
    exact ⟨beq_iff_eq.mp q, (Option.some.inj h).symm⟩
  | false =>
    rw [q] at h
    cases h
section
variable {P : Program} {w : World} {K : PySem.W.Frag} {mg : Str → Option Value} {base : Heap}
abbrev nT : List Str := ["self", "most", "__class__"]
abbrev nfT (name qual : Str) (params : Arguments) (body : List Stmt) (scope : Scope) (cc cda : Addr) : NF := ⟨name, qual, params, body, scope, [("__class__", cc)], cda⟩
theorem fnok_too {CX : CXT} {name qual : Str} {params : Arguments} {scope : Scope} {jl : List Expr} {pj : Pos} {p0 p1 p2 p3 p4 p5 p6 p7 p8 : Pos} {dV kV doc pm ct oc : Value} {an od : Option Addr} {osl : Array (Option Value)} {C f cc cda : Addr} {tj : Int → TE}
    (F : SupF P K mg C f cc cda qual) (lk : K.lookup f = some ⟨oc, od, .func (PySem.W.ksFn name qual params (bodyT jl pj p0 p1 p2 p3 p4 p5 p6 p7 p8) scope dV kV doc pm an (.ref cda) ct cc), osl⟩)
    (S : NScope nT ["self", "most"] ["__class__"] scope) (hsu : scope.names.lookup ("super" : Str) = some .globalImplicit) (hpa : (params.posonlyargs ++ params.args).head?.map (·.arg) = some ("self" : Str)) (hno : PySem.W.findIn K (.ref C) "most" = some none)
    (hjs : ∀ (A : Around) (outer : List Env) (s : Shared) (H : Hp) (E : XK) (m : Int), m.natAbs.log2 < 100 → ∃ t, PE (ncx CX P w K mg base nT (nfT name qual params (bodyT jl pj p0 p1 p2 p3 p4 p5 p6 p7 p8) scope cc cda) f A outer s H E) (.JoinedStr jl pj) t ∧
      ∀ (e : Addr) (G : Hp) (Q : VK), (∀ z : Str, Q (.str z) G) → t (startF nT [.ref e, .int m] [none]) G Q)
    {pl : Env → Sem Bool} (hev : ∀ env : Env, eval (.Call (.Attribute (.Call (.Name "super" p0) [] [] p1) "__init__" p2) [.JoinedStr jl pj] [] p3) env = (do
      let ov ← attributeBase (.Call (.Name "super" p0) [] [] p1) "__init__" env (eval (.Call (.Name "super" p0) [] [] p1) env)
      standAt p2.atName
      let (f, first) ← holding [ov] (getMethod ov "__init__" (pl env))
      callWith p3 f first (backTo p3 (starEach [.JoinedStr jl pj] env)) [])) :
    FnOk P w K mg base CX 1 f (PySem.W.ksFn name qual params (bodyT jl pj p0 p1 p2 p3 p4 p5 p6 p7 p8) scope dV kV doc pm an (.ref cda) ct cc) ["self", "most"] (spToo K C) := by
  refine ⟨fun vs H Q E ⟨e, m, h, _⟩ => by rw [h]; rfl, fun A outer s H args us vs Q E hr e0 hb r hsp => ?_⟩
  obtain ⟨e, m, rfl, hm, he, q⟩ := hsp
  obtain ⟨v0, v1, rfl, r0, r1⟩ : ∃ v0 v1, us = [v0, v1] ∧ RelV (.ref e) v0 ∧ RelV (.int m) v1 := by
    cases r with
    | cons a r =>
      cases r with
      | cons b r =>
        cases r
        exact ⟨_, _, rfl, a, b⟩
  obtain rfl : v0 = Value.ref e := r0
  have KX : K.In s.heap := e0.mod.kin.keeps fun b o z => (e0.bs b o z).1
  have lim : s.heap.NoLimit := e0.mod.nolimit.keeps fun b o z => (e0.bs b o z).1
  obtain ⟨nf, hnf⟩ : ∃ nf, nf = nfT name qual params (bodyT jl pj p0 p1 p2 p3 p4 p5 p6 p7 p8) scope cc cda := ⟨_, rfl⟩
  obtain ⟨ccl, ccd, ccs, hcell⟩ := F.cell
  refine ks_codeAny_call_defAt (body := bodyT jl pj p0 p1 p2 p3 p4 p5 p6 p7 p8) (binds := (["self", "most"] : List Str).zip [.ref e, v1]) hr.depth (KX _ _ lk) rfl lim (PySem.W.codeRec_of KX F.cd) rfl hb S.nocell (fun ⟨n, v⟩ hy => S.par n (List.of_mem_zip hy).1) (fun h1 hns kp => ?_) S.co S.gen S.kind
  have cb : ∃ o, base.get? cc = some o ∧ o.data = .cell (some (.ref C)) := ⟨_, e0.mod.kin _ _ hcell, rfl⟩
  obtain ⟨oc', hoc, hdc⟩ := cb
  have Cel : CellsAt [("__class__", cc)] ["__class__"] [none] s.heap H := by
    refine ⟨rfl, fun y c z => ?_, fun x y c a b => ?_, fun i y hi => ?_⟩
    · obtain ⟨_, rfl⟩ := one_look z
      exact ⟨(e0.bs _ _ hoc).2, _, oc', (e0.bs _ _ hoc).1, hdc⟩
    · rw [(one_look a).1, (one_look b).1]
    · cases i with
      | zero =>
        cases hi
        exact ⟨cc, by simp [List.lookup], fun v hv => by cases hv⟩
      | succ i => cases hi
  have I : Inv (ncx CX P w K mg base nT nf f A outer s H E) [] (startF nT [.ref e, .int m] [none]) H { s with heap := h1, toks := s.toks + ((["self", "most"] : List Str).zip [Value.ref e, v1]).length } := by
    rw [hnf]
    exact inv_startN (ps := ["self", "most"]) (fr := ["__class__"]) S hr.hd e0 rfl (.cons rfl (.cons r1 .nil)) Cel hns kp
  obtain ⟨tj', hpj, qj⟩ := hjs A outer s H E m hm
  rw [← hnf] at hpj
  have KX1 := I.kIn
  obtain ⟨ccl2, cdd, vs, ccs2, file, tf, hcode, hvs, hfile⟩ := F.code
  obtain ⟨ar, har, hara⟩ : ∃ ar, (params.posonlyargs ++ params.args).head? = some ar ∧ ar.arg = ("self" : Str) := by
    cases z : (params.posonlyargs ++ params.args).head? with
    | none => rw [z] at hpa; cases hpa
    | some ar => rw [z] at hpa; exact ⟨ar, rfl, Option.some.inj hpa⟩
  obtain ⟨cdD, hD⟩ := F.hD
  obtain ⟨oD, hD1, hD2⟩ : ∃ oD, h1.get? C = some oD ∧ oD.data = .cls cdD := by
    unfold PySem.W.clsIn at hD
    split at hD
    · rename_i c d cd' sl ho
      cases hD
      exact ⟨_, KX1 _ _ ho, rfl⟩
    · cases hD
  obtain ⟨t1, hoe⟩ := exo_at I.hok he
  have InI : PySem.W.InstAt h1 e { cls := .ref C, dict := none, data := .fields #[.ref t1, .none, .none, .none, .bool false, .none] } C none := ⟨hoe, rfl, rfl, trivial⟩
  have hkc : scope.names.lookup ("__class__" : Str) = some .free := S.frk _ (List.mem_cons_self ..)
  have hks : scope.names.lookup ("self" : Str) = some .local := S.par _ (List.mem_cons_self ..)
  have hkm : scope.names.lookup ("most" : Str) = some .local := S.par _ (List.mem_cons_of_mem _ (List.mem_cons_self ..))
  have hint : interactive (callEnv (PySem.W.ksFn name qual params (bodyT jl pj p0 p1 p2 p3 p4 p5 p6 p7 p8) scope dV kV doc pm an (.ref cda) ct cc) s.heap.objs.size f) = false := by
    have z := I.quiet
    rw [hnf] at z
    exact z
  have hsw : swapsWith (.Call (.Attribute (.Call (.Name "super" p0) [] [] p1) "__init__" p2) [.JoinedStr jl pj] [] p3) none p4.line (callEnv (PySem.W.ksFn name qual params (bodyT jl pj p0 p1 p2 p3 p4 p5 p6 p7 p8) scope dV kV doc pm an (.ref cda) ct cc) s.heap.objs.size f) = pure false := rfl
  refine ks_wpAt_execs_cons ?_
  refine ks_wpAt_Expr_any ?_ hint hsw
  refine ks_wpAt_MethodCall (pl := pl _) ?_ (hev _)
  refine ks_wpAt_super_base hsu hkc (by decide) rfl (KX1 _ _ lk) rfl har rfl (KX1 _ _ hcode) rfl hvs hfile F.top ?_
  obtain ⟨mb, b1, b2⟩ := I.mod.blt
  refine PySem.W.ks_loadName_global S.kind hsu (Calls.loadGlobal_builtin (e0.mod.glob.keeps I.bk) F.sup (b1.keeps I.bk) ((b2 "super" (by decide)).trans rfl) ⟨rfl, ?_⟩)
  refine wpAny_loadName_free S.kind hkc rfl ⟨oc', I.bk _ _ hoc, hdc⟩ ?_
  rw [hara]
  refine wpAny_loadName_local S.kind hks hns rfl ?_
  refine ks_wpAny_isType_cls hD1 hD2 ⟨rfl, ?_⟩
  refine ks_wpAny_call_super hD1 hD2 hoe rfl (fun c z => nomatch z) (PySem.W.looks_mroIn KX1 F.mro) (fun h2 e2 k2 => ?_)
  have I2 : Inv (ncx CX P w K mg base nT nf f A outer s H E) [] (startF nT [.ref e, .int m] [none]) H { s with heap := h2, toks := s.toks + ((["self", "most"] : List Str).zip [Value.ref e, v1]).length } := I.kept k2
  have hal := F.al
  unfold PySem.W.ks_superIn at hal
  rw [hD] at hal
  have InI2 : PySem.W.InstAt h2 e { cls := .ref C, dict := none, data := .fields #[.ref t1, .none, .none, .none, .bool false, .none] } C none := ⟨k2 _ _ hoe, rfl, rfl, trivial⟩
  have hIs : PySem.W.Looks (model P w) h2 (isInstance (.ref e) (.type "ValueError")) true := InI2.type.andThen (PySem.W.looks_subIn I2.kIn F.ve)
  have hne : e ≠ C := fun z => by
    rw [z, hD1] at hoe
    cases hoe
    cases hD2
  refine PySem.W.kxs_getMethod PySem.W.kxs_ValueError e2 (PySem.W.looks_opaque I2.kIn F.opq) (l₀ := cdD.mro) (fun A Q E s k q => wpAny_bind ((PySem.W.looks_clsIn I2.kIn hD) A _ E s k (wpAny_pure q))) rfl I2.kIn hal hIs hne (by decide) ?_
  have I3 := pin_more (t' := s.toks + ((["self", "most"] : List Str).zip [Value.ref e, v1]).length + 1) (u := h2.objs.size) (o := PySem.W.kxs_mw "ValueError.__init__" e) (h' := h2.push (PySem.W.kxs_mw "ValueError.__init__" e)) I2 (Nat.le_refl _) (fun b o z => Heap.get?_push_of_some _ z) (Heap.get?_push_size _ rfl) fun v z => nomatch z
  show wpAny _ _ (callWith p3 (.ref h2.objs.size) [] (backTo p3 (starEach [.JoinedStr jl pj] _)) []) _ _ _
  refine PySem.W.kxs_callWith (i := "ValueError.__init__") (x := e) (by rfl) (Calls.evalArgs_plain ?_)
  have pa := (pa_cons hpj pa_nil).run p3 _ _ _ _ (fun us G => ∃ z : Str, us = [.str z] ∧ G = H) I3 (qj e H _ fun z => ⟨z, rfl, rfl⟩)
  subst hnf
  refine thn pa fun us s1 ⟨vs, H1, I4, r4, z, ev, eH⟩ => ?_
  subst ev
  rw [eH] at I4
  have hu4 := (I4.pin _ (List.mem_append_right _ (List.mem_cons_self ..))).1
  refine ⟨hu4, ?_⟩
  refine wrap_call (us := us) F.ox I4 he hu4 (by rw [← r4.length]; simp [sizeLine_eq]) fun s5 I5 => ?_
  have I6 := pin_less I5
  refine wpAt_of_wpAny ?_
  have ps := pss_one (ps_ost (X := ncx CX P w K mg base nT (nfT name qual params (bodyT jl pj p0 p1 p2 p3 p4 p5 p6 p7 p8) scope cc cda) f A outer s H E) (o := .Name "self" p5) (f := "most") (p' := p6) (pos := p8) (pe_var (x := "self") (i := 0) rfl (.inl hks)) (pe_var (x := "most") (pos := p7) (i := 1) rfl (.inl hkm)) rfl)
  refine wpAny_mono (ps.run _ _ _ _ { nx := fun _ H' => Q .non H', rt := Q } I6 ?_) (fun fl s7 hs => ?_) fun e' s7 hs => hs
  · exact ⟨_, rfl, _, rfl, e, C, rfl, F.ox, hno, .inl ⟨he, fun dx n ne => q dx n ne⟩⟩
  · cases fl with
    | next =>
      obtain ⟨σ', H', J, q'⟩ := hs
      exact ⟨.non, H', J.os, J.bare, J.base, J.hok, rfl, q'⟩
    | ret u =>
      obtain ⟨v, σ', H', J, rv, q'⟩ := hs
      exact ⟨v, H', J.os, J.bare, J.base, J.hok, rv, q'⟩
    | brk =>
      obtain ⟨_, _, _, q'⟩ := hs
      exact q'.elim
    | cont =>
      obtain ⟨_, _, _, q'⟩ := hs
      exact q'.elim
end
end AsToo

set_option maxHeartbeats 4000000
set_option autoImplicit false
/-! such an exception raised. -/
namespace AsToo
open PySem PySem.Spec PyProof.Rows L2
open Evl (Ex)
structure Et (P : Program) (w : World) (K : PySem.W.Frag) (mg : Str → Option Value) (base : Heap) (x : Str) (C : Addr) : Prop where
  g : mg x = some (.ref C)
  ox : OexC K C
  fn : ∃ fI fd, PySem.W.findIn K (.ref C) "__init__" = some (some (.ref fI)) ∧ PySem.W.typeIn K (.ref fI) = some (.type "function") ∧ FnOk P w K mg base C8.CX0 1 fI fd ["self", "most"] (spToo K C) ∧ Binds K fd ["self", "most"] []
theorem heap_back {H : Hp} {a C d : Addr} {fs : List (Str × V)} (n : H a = none) (ne : d ≠ a) : upd (L2.del (upd (upd (upd H a (exo a C none)) d (exd d fs)) a (exo a C (some d))) a) d (.xd fs) = upd H d (.xd fs) := funext fun b => by
  by_cases h1 : b = d
  · rw [h1, upd_same, upd_same]
  · rw [upd_ne h1, upd_ne h1]
    by_cases h2 : b = a
    · rw [h2, del_same, n]
    · rw [del_ne h2, upd_ne h2, upd_ne h1, upd_ne h2]
/-- what is asked where it is made with the value v -/
def InT (K : PySem.W.Frag) (C : Addr) (R : Addr → Hp → Prop) (v : V) (H1 : Hp) : Prop := [v].length ≤ 1000 ∧ ∀ a, H1 a = none → spToo K C (.ref a :: ([v] ++ [])) (upd H1 a (exo a C none))
  (fun u H2 => u = .non ∧ ∃ (d : Addr) (fs : List (Str × V)), H2 a = some (exo a C (some d)) ∧ H2 d = some (exd d fs) ∧ H1 d = none ∧ R d (upd (L2.del H2 a) d (.xd fs))) (fun _ _ _ => False)
theorem inT_of {K : PySem.W.Frag} {C : Addr} {R : Addr → Hp → Prop} {m : Int} {H1 : Hp} (hm : m.natAbs.log2 < 100) (q : ∀ d, H1 d = none → R d (upd H1 d (.xd [("most", .int m)]))) : InT K C R (.int m) H1 := by
  refine ⟨by simp, fun a na => ⟨a, m, rfl, hm, upd_same, fun d nd ne => ⟨rfl, d, _, upd_same, (upd_ne ne).trans upd_same, (upd_ne ne).symm.trans nd, ?_⟩⟩⟩
  rw [heap_back na ne]
  exact q d ((upd_ne ne).symm.trans nd)
def tRaiseT (K : PySem.W.Frag) (C : Addr) (W : WX) (te : TE) : TS := fun _ σ H => te σ H fun v H1 => InT K C (fun d H' => W (.ref C) (some d) σ H') v H1
theorem ps_raiseT {X : Cx} {x : Str} {C : Addr} {W : WX} {e : Expr} {te : TE} {p pos pos2 : Pos} (c : Et X.prog X.w X.K X.mg X.base x C) (hr : Room 2 X.A) (hc : X.calm = true) (tk : Takes X W) (hg : Gl X x) (he : PE X e te)
    (hdb : (x == ("__debug__" : Str)) = false := by decide) (hs : starEach [e] X.env = (false, eval e X.env) :: starEach [] X.env := by rfl) : PS X (.Raise (some (.Call (.Name x p) [e] [] pos)) none pos2) (tRaiseT X.K C W te) := by
  obtain ⟨fI, fd, h1, h2, F1, hb⟩ := c.fn
  have mk : PMk X (.Call (.Name x p) [e] [] pos) (tMkO C (spToo X.K C) [] (tCons te tNil)) := pmk_oex c.ox h1 h2 F1 hr hb .nil (fun _ _ _ _ _ _ _ z => z.elim) hg c.g (pa_cons he pa_nil hs) hdb hs rfl
  have r := ps_raise (pos := pos2) hc tk mk
  exact ⟨fun pins s σ H D I h => r.run pins s σ H D I h⟩
end AsToo

set_option maxHeartbeats 4000000
set_option autoImplicit false
/-! deeds, done, copies as defs that raise. -/
namespace K27
open PySem PySem.Spec PyProof.Rows L2 AsSort AsKit AsToo
open Evl (Ex Ev EvT EvA)
section
variable {P : Program} {w : World} {K : PySem.W.Frag} {mg : Str → Option Value} {base : Heap}
/-- which of the three is wrong, and the class of its error -/
def Bad3 (CL CK CT : Addr) (l k t : PyData) (C : Addr) : Prop := (C = CL ∧ Tx l ∧ isLettersD l = false) ∨ (C = CK ∧ ∃ y, l = .str y ∧ Tx l ∧ isLetS y = true ∧ TxL k ∧ lotD y k = false) ∨
  (C = CT ∧ ∃ y, l = .str y ∧ Tx l ∧ isLetS y = true ∧ TxL k ∧ lotD y k = true ∧ Tx t ∧ withinD y 40 t = false)
theorem ck3_bad {CL CK CT C : Addr} {l k t : PyData} {H : Hp} {E : XK} {R : Hp → Prop} (b : Bad3 CL CK CT l k t C) (h : ∀ H', Ex H H' → E (.ref C) none H') : Ck3 CL CK CT l k t H E R := by
  rcases b with ⟨rfl, b1, b2⟩ | ⟨rfl, y, rfl, b1, b2, b3, b4⟩ | ⟨rfl, y, rfl, b1, b2, b3, b4, b5, b6⟩
  · refine ⟨b1, fun _ => h, fun y e1 e2 => ?_⟩
    subst e1
    rw [show isLettersD (.str y) = isLetS y from rfl, e2] at b2
    cases b2
  · refine ⟨b1, fun z => ?_, fun y' e1 e2 => ?_⟩
    · rw [show isLettersD (.str y) = isLetS y from rfl, b2] at z
      cases z
    · cases e1
      refine ⟨b3, fun _ => h, fun z => ?_⟩
      rw [b4] at z
      cases z
  · refine ⟨b1, fun z => ?_, fun y' e1 e2 => ?_⟩
    · rw [show isLettersD (.str y) = isLetS y from rfl, b2] at z
      cases z
    · cases e1
      refine ⟨b3, fun z => ?_, fun _ => ⟨b5, fun _ => h, fun z => ?_⟩⟩
      · rw [b4] at z
        cases z
      · rw [b6] at z
        cases z
theorem ck3_ok {CL CK CT : Addr} {l k t : PyData} {H : Hp} {E : XK} {R : Hp → Prop} (b : Okay l k t) (h : ∀ H', Ex H H' → R H') : Ck3 CL CK CT l k t H E R := by
  obtain ⟨y, z, ps, rfl, rfl, rfl, o0, o1, o2, o3, o4, o5, o6, o7⟩ := b
  have hl := lot_ok o5 o6 o7
  have hw : withinD y 40 (.str z) = true := by
    show withinS y z 40 = true
    unfold withinS
    rw [o4, decide_eq_true (by omega : (z.length : Int) ≤ 40)]
    rfl
  refine ⟨fun x e => by cases e; exact o1, fun q => ?_, fun y' e1 e2 => ?_⟩
  · rw [show isLettersD (.str y) = isLetS y from rfl, o2] at q
    cases q
  · cases e1
    refine ⟨tx_kinds fun p hp => ⟨(o7 p hp).1, (o7 p hp).2.1⟩, fun q => ?_, fun _ => ⟨fun x e => by cases e; omega, fun q => ?_, fun _ => h⟩⟩
    · rw [hl] at q
      cases q
    · rw [hw] at q
      cases q
/-- the wrong argument's error, or what is asked where all three are right -/
def Or3 (CL CK CT : Addr) (l k t : PyData) (H : Hp) (E : XK) (R : Prop) : Prop := (∃ C, Bad3 CL CK CT l k t C ∧ ∀ H', Ex H H' → E (.ref C) none H') ∨ (Okay l k t ∧ R)
def spXDeeds (K : PySem.W.Frag) (CL CK CT : Addr) : Sp := fun vs H Q E => ∃ l k t, DpAll K H vs [l, k, t] ∧ Or3 CL CK CT l k t H E (∀ v H', Ex H H' → Q v H')
/-- the deed: no deed | a deed, the text behind it too long | one that can be done -/
def DoneR (CD CM : Addr) (k t d : PyData) (H : Hp) (Q : VK) (E : XK) : Prop := SeqAt.shaped d = true ∧ ((∃ z, t = .str z ∧ deedD k z d = false ∧ ∀ H', Ex H H' → E (.ref CD) none H') ∨
  (∃ (ps : List (Str × Str)) (z : Str) (p : Nat) (kk : Str × Str), k = .tuple (ps.map kD) ∧ t = .str z ∧ d = dD p kk ∧ dD p kk ∈ deedsL ps z ∧ kk ∈ ps ∧
    ((40 < (bhS z p kk).length ∧ ∀ H' m, Ex H H' → H' m = none → E (.ref CM) (some m) (upd H' m (.xd [("most", .int 40)]))) ∨ ((bhS z p kk).length ≤ 40 ∧ ∀ H', Ex H H' → Q (.str (bhS z p kk)) H'))))
def spXDone (K : PySem.W.Frag) (CL CK CT CD CM : Addr) : Sp := fun vs H Q E => ∃ l k t d, DpAll K H vs [l, k, t, d] ∧ Or3 CL CK CT l k t H E (DoneR CD CM k t d H Q E)
theorem x_done {CL CK CT CD CM : Addr} (D : Df K mg "done" sDone) (hb : Bl mg) (g40 : Gn mg "LONGEST_TEXT" 40) (cD : Ec K mg "BadDeed" CD) (cM : Et P w K mg base "TooLong" CM) (C1 : Klx P w K mg base 6 "check_deeds_of" ["letters", "kinds", "text"] (spX3 K CL CK CT))
    (C2 : Cl P w K mg base 6 "is_deed_on" (spIsDeedOn K) []) (C3 : Cl P w K mg base 1 "text_behind" (spTextBehind K) []) : Klx P w K mg base 7 "done" ["letters", "kinds", "text", "deed"] (spXDone K CL CK CT CD CM) := by
  refine klx_of D sc_done (fun vs H Q E ⟨l, k, t, d, h, _⟩ => dpAll_len h) (fun _ _ _ _ _ _ us hl => match us, hl with | [_, _, _, _], _ => rfl) fun f cdv A outer s H vs Q E hr h => ?_
  obtain ⟨l, k, t, d, hd, o⟩ := h
  obtain ⟨v, v2, v3, v4, rfl, h0, h1, h2, h3⟩ := dp4 hd
  obtain ⟨f1, fd1, F1, m1, k1, b1⟩ := C1
  refine ⟨_, pss_cons (ps_expr (pe_call F1 (hr.mono (by decide)) (by rfl) m1 k1 b1 .nil (passes_call (takes_of rfl rfl rfl rfl) fun _ _ _ _ h => h) (pa_cons (pv 0) (pa_cons (pv 1) (pa_cons (pv 2) pa_nil)))))
    (pss_cons (ps_if (pt_not (pt_val (C8.pe_c C2 hr (by decide) (by rfl) (pa_cons (pv 1) (pa_cons (pv 2) (pa_cons (pv 3) pa_nil)))))) (pss_one (ps_raise0 cD rfl (takes_of rfl rfl rfl rfl) (by rfl))) pss_nil)
    (pss_cons (ps_set (i := 4) sc_done.nd rfl (.inl rfl) (C8.pe_c C3 hr (by decide) (by rfl) (pa_cons (pv 2) (pa_cons (pv 3) pa_nil))))
    (pss_cons (ps_if (pt_cmpR op_gt (pe_lenS hb (pv 4)) (pe_gn g40) (nomark _)) (pss_one (ps_raiseT cM (hr.mono (by decide)) rfl (takes_of rfl rfl rfl rfl) (by rfl) (pe_gn g40))) pss_nil) (pss_one (ps_ret (pv 4)))))), ?_⟩
  refine ⟨v, rfl, v2, rfl, v3, rfl, l, k, t, .cons h0 (.cons h1 (.cons h2 .nil)), ?_⟩
  rcases o with ⟨C, b, e⟩ | ⟨ok, sh, o⟩
  · exact ck3_bad b e
  · refine ck3_ok ok fun H1 e1 => ?_
    have a1 : At K (start nDone [v, v2, v3, v4]) H1 1 k := ⟨_, rfl, dp_ex e1 h1⟩
    have a2 : At K (start nDone [v, v2, v3, v4]) H1 2 t := ⟨_, rfl, dp_ex e1 h2⟩
    have a3 : At K (start nDone [v, v2, v3, v4]) H1 3 d := ⟨_, rfl, dp_ex e1 h3⟩
    have hkt := okay_kt ok
    have tst := d_call (K := K) (E := C8.E0) (ds_cons (d_var a1) (ds_cons (d_var a2) (ds_cons (d_var a3) ds_nil))) (pre := fun ds => ∃ k t d, ds = [k, t, d] ∧ Kt k t ∧ SeqAt.shaped d = true) (g := three ido3) ⟨k, t, d, rfl, hkt, sh⟩
    dsimp only [gName]
    rcases o with ⟨z, rfl, no, e⟩ | ⟨ps, z, p, kk, rfl, rfl, rfl, hm, hkk, o⟩
    · exact Evl.q_when (b := !(deedD k z d)) (Evl.et_not (t_ofB tst)) (fun _ H2 e2 => e H2 (e1.trans e2)) fun z2 => by rw [no] at z2; cases z2
    · obtain ⟨ps2, z2, q1, q2, n1, n2, n3⟩ := id hkt
      have eps : ps2 = ps := by
        have := congrArg pairsOf q1
        rw [pairs_map, pairs_map] at this
        exact this.symm
      subst eps
      cases q2
      have kl := n3 kk hkk
      have hin : deedD (.tuple (ps2.map kD)) z (dD p kk) = true := by
        show (isIntD (.int (p : Int)) && dinD (.tuple (ps2.map kD)) z (dD p kk)) = true
        rw [show isIntD (.int (p : Int)) = true from (by decide +kernel : ((match kitB "int" "int" with | some b => b | none => false) && !(match kitB "int" "bool" with | some b => b | none => false)) = true), Bool.true_and]
        unfold dinD
        rw [pairs_map]
        exact List.any_eq_true.mpr ⟨_, hm, SeqAt.eqv_refl _ (SeqAt.canLay_of_shaped sh)⟩
      refine Evl.q_when (b := !(deedD (.tuple (ps2.map kD)) z (dD p kk))) (Evl.et_not (t_ofB tst)) (fun hb1 => by rw [hin] at hb1; cases hb1) fun _ H2 e2 => ?_
      refine AsKit.q_asg (d_call (ds_cons (d_var (a2.mono e2)) (ds_cons (d_var (a3.mono e2)) ds_nil)) ⟨z, p, kk, rfl, by omega, kl.1, kl.2.1⟩) fun u H3 e3 hu => ?_
      have c4 : At K ((start nDone [v, v2, v3, v4]).set 4 (some u)) H3 4 (.str (bhS z p kk)) := ⟨_, rfl, hu⟩
      have bl : (bhS z p kk).length ≤ 100000 := by
        have l1 := cut_len z none (some (p : Int))
        have l2 := cut_len z (some ((p + kk.1.length : Nat) : Int)) none
        unfold bhS
        rw [add_len, add_len]
        omega
      refine Evl.q_when (b := decide ((40 : Int) < ((bhS z p kk).length : Int))) (t_ofD (d_cmpI (g := fun i j => decide (j < i)) (d_lenS (d_var c4) bl) d_int)) (fun hb1 H4 e4 => ?_) fun hb1 H4 e4 => ?_
      · have lt := of_decide_eq_true hb1
        rcases o with ⟨_, e⟩ | ⟨le, _⟩
        · exact inT_of (by decide) fun m nm => e H4 m (((e1.trans e2).trans e3).trans e4) nm
        · omega
      · have nlt := of_decide_eq_false hb1
        rcases o with ⟨lt, _⟩ | ⟨_, q⟩
        · omega
        · exact AsKit.s_ret (K := K) (d_var (c4.mono e4)) fun u H5 e5 hu => by cases hu; exact q H5 ((((e1.trans e2).trans e3).trans e4).trans e5)
theorem bhS_len {z : Str} {p : Nat} {kk : Str × Str} : (bhS z p kk).length ≤ z.length + kk.2.length + z.length := by
  have l1 := cut_len z none (some (p : Int))
  have l2 := cut_len z (some ((p + kk.1.length : Nat) : Int)) none
  unfold bhS
  rw [add_len, add_len]
  omega
def CopiesR (CM : Addr) (k t : PyData) (H : Hp) (Q : VK) (E : XK) : Prop := ∃ (ps : List (Str × Str)) (z : Str), k = .tuple (ps.map kD) ∧ t = .str z ∧
  (((∃ s ∈ behinds ps z, 40 < s.length) ∧ ∀ H' m, Ex H H' → H' m = none → E (.ref CM) (some m) (upd H' m (.xd [("most", .int 40)]))) ∨ ((∀ s ∈ behinds ps z, s.length ≤ 40) ∧ ∀ v H', Ex H H' → Q v H'))
def spXCopies (K : PySem.W.Frag) (CL CK CT CM : Addr) : Sp := fun vs H Q E => ∃ l k t, DpAll K H vs [l, k, t] ∧ Or3 CL CK CT l k t H E (CopiesR CM k t H Q E)
theorem puts_has : ∀ (ts : List Str) (kvs : Kvs) (s : Str), (s ∈ ts ∨ ∃ kv ∈ kvs, kv.1 = .inr s) → ∃ kv ∈ ts.foldl putT kvs, kv.1 = .inr s
  | [], _, _, h => h.elim (fun z => nomatch z) id
  | t :: ts, kvs, s, h => puts_has ts (putT kvs t) s (by
    have up : ∀ kv ∈ kvs, ∃ kw ∈ putT kvs t, kw.1 = kv.1 := fun kv hkv => by
      unfold putT putK
      split
      · by_cases e : kv.1 = .inr t
        · exact ⟨(kv.1, .bl true), List.mem_map.mpr ⟨kv, hkv, by rw [if_pos e]⟩, rfl⟩
        · exact ⟨kv, List.mem_map.mpr ⟨kv, hkv, by rw [if_neg e]⟩, rfl⟩
      · exact ⟨kv, List.mem_append_left _ hkv, rfl⟩
    have own : ∃ kw ∈ putT kvs t, kw.1 = .inr t := by
      unfold putT putK
      split
      · rename_i h1
        obtain ⟨kv, h2, h3⟩ := List.any_eq_true.mp h1
        have e := of_decide_eq_true h3
        exact ⟨(kv.1, .bl true), List.mem_map.mpr ⟨kv, h2, by rw [if_pos e]⟩, e⟩
      · exact ⟨(.inr t, .bl true), List.mem_append_right _ (List.mem_singleton.mpr rfl), rfl⟩
    rcases h with h | ⟨kv, h1, h2⟩
    · rcases List.mem_cons.mp h with rfl | h
      · exact .inr own
      · exact .inl h
    · obtain ⟨kw, a, b⟩ := up kv h1
      exact .inr ⟨kw, a, b.trans h2⟩)
theorem strs_all {ss : List Str} {s : Str} (h : s ∈ ss) : s ∈ strsOf (putsT ss) := by
  obtain ⟨kv, a, b⟩ := puts_has ss [] s (.inl h)
  exact List.mem_map.mpr ⟨kv, a, by rw [b]; rfl⟩
end
end K27

set_option maxHeartbeats 4000000
set_option autoImplicit false
namespace K27
open PySem PySem.Spec PyProof.Rows L2 AsSort AsKit
open Evl (Ex Ev EvT EvA)
abbrev sIsRow : Stmt := top 43
abbrev sIsReader : Stmt := top 44
section
variable {P : Program} {w : World} {K : PySem.W.Frag} {mg : Str → Option Value} {base : Heap}
abbrev nIsRow : List Str := ["value", "width", "many", "stand"]
theorem sc_is_row : FnScope nIsRow ["value", "width", "many"] (defScope sIsRow) := ⟨rfl, rfl, rfl, by decide +kernel, rfl, by decide +kernel, by decide +kernel⟩
def inR (n : Int) : PyData → Bool
  | .int i => decide ((0 : Int) ≤ i) && decide (i < n)
  | _ => false
def standD (n : Int) (d : PyData) : Bool := isIntD d && inR n d
def rowD (w n : Int) : PyData → Bool
  | .tuple ds => decide ((ds.length : Int) = w) && ds.all (standD n)
  | _ => false
theorem rowD_no {w n : Int} {d : PyData} (h : isD "tuple" d = false) : rowD w n d = false := by
  cases d with
  | tuple z => rw [isD_tup1] at h; cases h
  | _ => rfl
def rw3 : PyData → PyData → PyData → PyData
  | d, .int w, .int n => .bool (rowD w n d)
  | _, _, _ => .none
def isK (y T : String) : Bool := match kitB y T with
  | some b => b
  | none => false
theorem isD_K (T : String) (d : PyData) : isD T d = isK (tyName d) T := rfl
theorem int_of {d : PyData} (h : isIntD d = true) : ∃ i, d = .int i := by
  have k : ∀ y ∈ names7, y ≠ "int" → (isK y "int" && !isK y "bool") = false := by decide +kernel
  unfold isIntD at h
  rw [isD_K, isD_K] at h
  cases d with
  | int i => exact ⟨i, rfl⟩
  | _ => exact absurd h (by rw [k _ (ty7 _) (by show _ ≠ _; simp only [tyName]; decide)]; decide)
abbrev spIsRow (K : PySem.W.Frag) : Sp := spP K (fun ds => ∃ d w n, ds = [d, .int w, .int n] ∧ w ≤ 40000) (three rw3)
theorem c_is_row (D : Df K mg "is_row" sIsRow) (hb : Bl mg) (C1 : Cl P w K mg base 1 "is_integer" (spIsInteger K) []) : Cl P w K mg base 2 "is_row" (spIsRow K) [] := by
  refine cl_of D sc_is_row (len_sp fun ds ⟨d, a, b, h, _⟩ => by rw [h]; rfl) (fun _ _ _ _ _ _ us hl => match us, hl with | [_, _, _], _ => rfl) fun f cdv A outer s H vs Q E hr h => ?_
  obtain ⟨ds, hd, ⟨d, wd, n, rfl, hw⟩, q⟩ := h
  obtain ⟨v, v2, v3, rfl, h0, h1, h2⟩ := dp3 hd
  refine ⟨_, pss_cons (ps_if (pw_or (pt_not (pt_val (pe_isi (x := "tuple") (T := "tuple") hb (pv 0)))) (pw_or1 (pt_cmpR op_ne (pe_lenQ hb (pv 0)) (pv 1) (nomark _)))).pt (pss_one (ps_ret pe_bl)) pss_nil)
    (pss_one (ps_ret (pe_allL rfl hb (pe_lcn 3 sc_is_row.nd (pi_tup (pv 0)) (fun _ _ _ _ _ => pts_nil) (fun _ _ _ _ _ => pe_and (C8.pe_c C1 hr (by decide) (by rfl) (pa_cons (pv 3) pa_nil)) (pe_one (pe_chain op_le op_lt pe_int (pv 3) (pv 2)))) (fun _ _ _ _ _ => pg_name sc_is_row.nd rfl (.inl rfl)) (blkOk_by (N := nIsRow) (sc := defScope sIsRow) (own := [("stand", 3)]) (by decide +kernel)) rfl)))), ?_⟩
  have a0 : At K (start nIsRow [v, v2, v3]) H 0 d := ⟨_, rfl, h0⟩
  have a1 : At K (start nIsRow [v, v2, v3]) H 1 (.int wd) := ⟨_, rfl, h1⟩
  have a2 : At K (start nIsRow [v, v2, v3]) H 2 (.int n) := ⟨_, rfl, h2⟩
  by_cases hs : isD "tuple" d = true
  · obtain ⟨es, rfl⟩ := isD_tup hs
    refine Evl.q_when (b := !(isD "tuple" (.tuple es)) || !decide ((es.length : Int) = wd)) (Evl.et_or (Evl.et_not (t_ofB (d_isD (d_var a0)))) fun _ => t_ofD (d_neI (d_lenT (d_var a0)) (d_var a1))) (fun hb1 H1 e1 => AsKit.s_ret (K := K) d_bl fun u H2 e2 hu => q u H2 (e1.trans e2) ?_) fun hb1 H1 e1 => ?_
    · rw [hs, Bool.not_true, Bool.false_or] at hb1
      show Dp K H2 u (.bool (decide ((es.length : Int) = wd) && es.all (standD n)))
      rw [(Bool.not_eq_true' _).mp hb1, Bool.false_and]
      exact hu
    · rw [hs, Bool.not_true, Bool.false_or] at hb1
      have hl2 : decide ((es.length : Int) = wd) = true := (Bool.not_eq_false' _).mp hb1
      have hl : es.length ≤ 40000 := by have := of_decide_eq_true hl2; omega
      have e : ((es.filter fun _ => true).map fun d => PyData.bool (standD n d)) = (es.map (standD n)).map PyData.bool := by
        rw [List.filter_eq_self.mpr fun _ _ => rfl, List.map_map]
        rfl
      refine AsKit.s_ret (K := K) (d_eqTo (d_all (bs := es.map (standD n)) (d_eqTo (d_lcT (fun _ => true) (fun d => PyData.bool (standD n d)) (d_var (a0.mono e1)) (by omega) (fun _ _ _ => rfl) fun d hd x H2 e2 hx k hk => hk _ rfl (fun H3 e3 Q q => q H3 (Ex.refl H3)) fun _ => ?_) (congrArg PyData.list e))) (congrArg PyData.bool List.all_map)) fun u H2 e2 hu => q u H2 (e1.trans e2) ?_
      · have g3 : At K ((wipe (start nIsRow [v, v2, v3]) [3]).set 3 (some x)) H2 3 d := ⟨_, rfl, hx⟩
        refine d_and (a := isIntD d) (b := inR n d) (d_call (ds_cons (d_var g3) ds_nil) rfl) fun hi => ?_
        obtain ⟨i, rfl⟩ := int_of hi
        exact d_chI (g1 := fun i j => decide (i ≤ j)) (g2 := fun i j => decide (i < j)) d_int (d_var g3) fun _ => d_var ⟨_, rfl, dp_ex (e1.trans e2) h2⟩
      · show Dp K H2 u (.bool (decide ((es.length : Int) = wd) && es.all (standD n)))
        rw [hl2, Bool.true_and]
        exact hu
  · have hs : isD "tuple" d = false := by simpa using hs
    refine Evl.q_when (b := !(isD "tuple" d) || false) (Evl.et_or (Evl.et_not (t_ofB (d_isD (d_var a0)))) fun h => by rw [hs] at h; cases h) (fun hb1 H1 e1 => AsKit.s_ret (K := K) d_bl fun u H2 e2 hu => q u H2 (e1.trans e2) ?_) fun hb1 => by rw [hs] at hb1; cases hb1
    show Dp K H2 u (.bool (rowD wd n d))
    rw [rowD_no hs]
    exact hu
abbrev nIsReader : List Str := ["value", "letters", "rows", "yes", "row", "said"]
theorem sc_is_reader : FnScope nIsReader ["value"] (defScope sIsReader) := ⟨rfl, rfl, rfl, by decide +kernel, rfl, by decide +kernel, by decide +kernel⟩
def okRows (y rows yes : PyData) : Bool := match y, rows, yes with
  | .str z, .tuple rs, .tuple ys => ((decide ((1 : Int) ≤ rs.length) && decide ((rs.length : Int) ≤ 200)) && decide ((ys.length : Int) = rs.length)) && (rs.all (rowD z.length rs.length) && ys.all (isD "bool"))
  | _, _, _ => false
def readerL : List PyData → Bool
  | [y, rows, yes] => isLettersD y && (isD "tuple" rows && (isD "tuple" yes && okRows y rows yes))
  | _ => false
def readerD : PyData → Bool
  | .tuple ds => readerL ds
  | _ => false
theorem readerD_no {d : PyData} (h : isD "tuple" d = false) : readerD d = false := by
  cases d with
  | tuple z => rw [isD_tup1] at h; cases h
  | _ => rfl
theorem readerL_len : ∀ {ds : List PyData}, ds.length ≠ 3 → readerL ds = false
  | [], _ => rfl
  | [_], _ => rfl
  | [_, _], _ => rfl
  | [_, _, _], h => (h rfl).elim
  | _ :: _ :: _ :: _ :: _, _ => rfl
theorem lettersD_str {d : PyData} (h : isLettersD d = true) : ∃ z, d = .str z ∧ z.length ≤ 4 := by
  cases d with
  | str z =>
    have h2 : isLetS z = true := h
    unfold isLetS at h2
    simp only [Bool.and_eq_true, decide_eq_true_eq] at h2
    exact ⟨z, rfl, by omega⟩
  | _ => cases h
/-- the texts in it are of a length that can be told -/
def TxR (d : PyData) : Prop := ∀ ds, d = .tuple ds → ∀ e ∈ ds, Tx e
abbrev spIsReader (K : PySem.W.Frag) : Sp := spP K (fun ds => ∃ d, ds = [d] ∧ TxR d) (one fun d => .bool (readerD d))
theorem c_is_reader (D : Df K mg "is_reader" sIsReader) (hb : Bl mg) (g200 : Gn mg "MOST_STANDS" 200) (C1 : Cl P w K mg base 1 "is_letters" (spIsLetters K) []) (C2 : Cl P w K mg base 2 "is_row" (spIsRow K) []) : Cl P w K mg base 3 "is_reader" (spIsReader K) [] := by
  refine cl_of D sc_is_reader (len_sp fun ds ⟨d, h, _⟩ => by rw [h]; rfl) (fun _ _ _ _ _ _ us hl => match us, hl with | [_], _ => rfl) fun f cdv A outer s H vs Q E hr h => ?_
  obtain ⟨ds, hd, ⟨d, rfl, ht⟩, q⟩ := h
  obtain ⟨v, rfl, h0⟩ := dp1 hd
  refine ⟨_, pss_cons (ps_if (pw_or (pt_not (pt_val (pe_isi (x := "tuple") (T := "tuple") hb (pv 0)))) (pw_or1 (pt_cmpR op_ne (pe_lenQ hb (pv 0)) pe_int (nomark _)))).pt (pss_one (ps_ret pe_bl)) pss_nil)
    (pss_cons (ps_asg (pv 0) (pg_tup rfl (pgs_cons (pg_name (i := 1) sc_is_reader.nd rfl (.inr rfl)) (pgs_cons (pg_name (i := 2) sc_is_reader.nd rfl (.inr rfl)) (pgs_cons (pg_name (i := 3) sc_is_reader.nd rfl (.inl rfl)) pgs_nil)))))
    (pss_cons (ps_if (pw_or (pt_not (pt_val (C8.pe_c C1 hr (by decide) (by rfl) (pa_cons (pv 1) pa_nil)))) (pw_or (pt_not (pt_val (pe_isi (x := "tuple") (T := "tuple") hb (pv 2)))) (pw_or1 (pt_not (pt_val (pe_isi (x := "tuple") (T := "tuple") hb (pv 3))))))).pt (pss_one (ps_ret pe_bl)) pss_nil)
    (pss_cons (ps_if (pw_or (pt_not (pt_chain op_le op_le pe_int (pe_lenQ hb (pv 2)) (pe_gn g200))) (pw_or1 (pt_cmpR op_ne (pe_lenQ hb (pv 3)) (pe_lenQ hb (pv 2)) (nomark _)))).pt (pss_one (ps_ret pe_bl)) pss_nil)
    (pss_cons (ps_if (pt_not (pt_val (pe_allL rfl hb (pe_lcn 4 sc_is_reader.nd (pi_tup (pv 2)) (fun _ _ _ _ _ => pts_nil) (fun _ _ _ _ _ => C8.pe_c C2 hr (by decide) (by rfl) (pa_cons (pv 4) (pa_cons (pe_lenS hb (pv 1)) (pa_cons (pe_callB (r := rLenQ K) call_len_seq (by rfl) (hb _ (by decide +kernel)) (by decide +kernel) (pa_cons (pv 2) pa_nil)) pa_nil)))) (fun _ _ _ _ _ => pg_name sc_is_reader.nd rfl (.inl rfl)) (blkOk_by (N := nIsReader) (sc := defScope sIsReader) (own := [("row", 4)]) (by decide +kernel)) rfl)))) (pss_one (ps_ret pe_bl)) pss_nil)
    (pss_one (ps_ret (pe_allL rfl hb (pe_lcn 5 sc_is_reader.nd (pi_tup (pv 3)) (fun _ _ _ _ _ => pts_nil) (fun _ _ _ _ _ => pe_callB (r := rIsi K) call_isi (by rfl) (hb _ (by decide +kernel)) (by decide +kernel) (pa_cons (pv 5) (pa_cons (pe_bltn (v := .ty "bool") (u := .type "bool") (by rfl) (hb _ (by decide +kernel)) (by decide +kernel) rfl) pa_nil))) (fun _ _ _ _ _ => pg_name sc_is_reader.nd rfl (.inl rfl)) (blkOk_by (N := nIsReader) (sc := defScope sIsReader) (own := [("said", 5)]) (by decide +kernel)) rfl)))))))), ?_⟩
  have a0 : At K (start nIsReader [v]) H 0 d := ⟨_, rfl, h0⟩
  by_cases hs : isD "tuple" d = true
  · obtain ⟨es, rfl⟩ := isD_tup hs
    refine Evl.q_when (b := !(isD "tuple" (.tuple es)) || !decide ((es.length : Int) = 3)) (Evl.et_or (Evl.et_not (t_ofB (d_isD (d_var a0)))) fun _ => t_ofD (d_neI (d_lenT (d_var a0)) d_int)) (fun hb1 H1 e1 => AsKit.s_ret (K := K) d_bl fun u H2 e2 hu => q u H2 (e1.trans e2) ?_) fun hb1 H1 e1 => ?_
    · rw [hs, Bool.not_true, Bool.false_or] at hb1
      have hl : es.length ≠ 3 := fun z => by rw [z] at hb1; cases hb1
      show Dp K H2 u (.bool (readerL es))
      rw [readerL_len hl]
      exact hu
    · rw [hs, Bool.not_true, Bool.false_or] at hb1
      have hl : es.length = 3 := by
        have z := of_decide_eq_true ((Bool.not_eq_false' _).mp hb1)
        omega
      obtain ⟨dy, dr, de, rfl⟩ := three_of hl
      have ty : Tx dy := ht _ rfl dy (by simp)
      refine ⟨v, rfl, g_three (dp_ex e1 h0) fun va vb vc ha hb2 hc => ?_⟩
      have b1 : ∀ {x4 x5 : Option V} {G : Hp}, Ex H1 G → At K [some v, some va, some vb, some vc, x4, x5] G 1 dy := fun e => ⟨_, rfl, dp_ex e ha⟩
      have b2 : ∀ {x4 x5 : Option V} {G : Hp}, Ex H1 G → At K [some v, some va, some vb, some vc, x4, x5] G 2 dr := fun e => ⟨_, rfl, dp_ex e hb2⟩
      have b3 : ∀ {x4 x5 : Option V} {G : Hp}, Ex H1 G → At K [some v, some va, some vb, some vc, x4, x5] G 3 de := fun e => ⟨_, rfl, dp_ex e hc⟩
      dsimp only
      refine Evl.q_when (b := !(isLettersD dy) || (!(isD "tuple" dr) || !(isD "tuple" de))) (Evl.et_or (Evl.et_not (t_ofB (K := K) (d_call (ds_cons (d_var (b1 (Ex.refl H1))) ds_nil) ⟨dy, rfl, ty⟩))) fun _ => Evl.et_or (Evl.et_not (t_ofB (d_isD (d_var (b2 (Ex.refl H1)))))) fun _ => Evl.et_not (t_ofB (d_isD (d_var (b3 (Ex.refl H1))))))
        (fun hb3 H2 e2 => AsKit.s_ret (K := K) d_bl fun u H3 e3 hu => q u H3 ((e1.trans e2).trans e3) ?_) fun hb3 H2 e2 => ?_
      · show Dp K H3 u (.bool (isLettersD dy && (isD "tuple" dr && (isD "tuple" de && okRows dy dr de))))
        have z : (isLettersD dy && (isD "tuple" dr && (isD "tuple" de && okRows dy dr de))) = false := by
          cases x : isLettersD dy with
          | false => rfl
          | true =>
            cases x2 : isD "tuple" dr with
            | false => rfl
            | true =>
              cases x3 : isD "tuple" de with
              | false => rfl
              | true => rw [x, x2, x3] at hb3; cases hb3
        rw [z]
        exact hu
      · have z : isLettersD dy = true ∧ isD "tuple" dr = true ∧ isD "tuple" de = true := by
          simp only [Bool.or_eq_false_iff, Bool.not_eq_false'] at hb3
          exact ⟨hb3.1, hb3.2.1, hb3.2.2⟩
        obtain ⟨z1, z2, z3⟩ := z
        obtain ⟨y, rfl, hy⟩ := lettersD_str z1
        obtain ⟨rs, rfl⟩ := isD_tup z2
        obtain ⟨ys, rfl⟩ := isD_tup z3
        have fin : ∀ u G, Ex H G → Dp K G u (.bool (okRows (.str y) (.tuple rs) (.tuple ys))) → Q u G := fun u G e hu => q u G e (by
          show Dp K G u (.bool (isLettersD (.str y) && (isD "tuple" (.tuple rs) && (isD "tuple" (.tuple ys) && okRows (.str y) (.tuple rs) (.tuple ys)))))
          rw [z1, z2, z3, Bool.true_and, Bool.true_and, Bool.true_and]
          exact hu)
        refine Evl.q_when (b := !(decide ((1 : Int) ≤ rs.length) && decide ((rs.length : Int) ≤ 200)) || !decide ((ys.length : Int) = rs.length)) (Evl.et_or (Evl.et_not (t_ofD (K := K) (d_chI (g1 := fun i j => decide (i ≤ j)) (g2 := fun i j => decide (i ≤ j)) d_int (d_lenT (d_var (b2 e2))) fun _ => d_int))) fun _ => t_ofD (d_neI (d_lenT (d_var (b3 e2))) (d_lenT (d_var (b2 e2)))))
          (fun hb4 H3 e3 => AsKit.s_ret (K := K) d_bl fun u H4 e4 hu => fin u H4 (((e1.trans e2).trans e3).trans e4) ?_) fun hb4 H3 e3 => ?_
        · show Dp K H4 u (.bool (((decide ((1 : Int) ≤ rs.length) && decide ((rs.length : Int) ≤ 200)) && decide ((ys.length : Int) = rs.length)) && (rs.all (rowD y.length rs.length) && ys.all (isD "bool"))))
          have z : ((decide ((1 : Int) ≤ rs.length) && decide ((rs.length : Int) ≤ 200)) && decide ((ys.length : Int) = rs.length)) = false := by
            rw [← Bool.not_and] at hb4
            exact (Bool.not_eq_true' _).mp hb4
          rw [z, Bool.false_and]
          exact hu
        · have z : ((decide ((1 : Int) ≤ rs.length) && decide ((rs.length : Int) ≤ 200)) && decide ((ys.length : Int) = rs.length)) = true := by
            rw [← Bool.not_and] at hb4
            exact (Bool.not_eq_false' _).mp hb4
          have hlr : rs.length ≤ 200 ∧ ys.length ≤ 200 := by
            simp only [Bool.and_eq_true, decide_eq_true_eq] at z
            omega
          have er : ((rs.filter fun _ => true).map fun d => PyData.bool (rowD y.length rs.length d)) = (rs.map (rowD y.length rs.length)).map PyData.bool := by
            rw [List.filter_eq_self.mpr fun _ _ => rfl, List.map_map]
            rfl
          have ey : ((ys.filter fun _ => true).map fun d => PyData.bool (isD "bool" d)) = (ys.map (isD "bool")).map PyData.bool := by
            rw [List.filter_eq_self.mpr fun _ _ => rfl, List.map_map]
            rfl
          have e13 := e2.trans e3
          refine Evl.q_when (b := !(rs.all (rowD y.length rs.length))) (Evl.et_not (t_ofB (K := K) (d_eqTo (d_all (bs := rs.map (rowD y.length rs.length)) (d_eqTo (d_lcT (fun _ => true) (fun d => PyData.bool (rowD y.length rs.length d)) (d_var (b2 e13)) (by omega) (fun _ _ _ => rfl) fun d hd x G eG hx k hk => hk _ rfl (fun H3 e3 Q q => q H3 (Ex.refl H3)) fun _ => ?_) (congrArg PyData.list er))) (congrArg PyData.bool List.all_map))))
            (fun hb5 H4 e4 => AsKit.s_ret (K := K) d_bl fun u H5 e5 hu => fin u H5 ((((e1.trans e2).trans e3).trans e4).trans e5) ?_) fun hb5 H4 e4 => ?_
          · exact d_call (ds_cons (d_var ⟨_, rfl, hx⟩) (ds_cons (d_lenS (d_var (b1 (e13.trans eG))) (by omega)) (ds_cons (d_lenT (d_var (b2 (e13.trans eG)))) ds_nil))) ⟨d, _, _, rfl, by omega⟩
          · show Dp K H5 u (.bool (((decide ((1 : Int) ≤ rs.length) && decide ((rs.length : Int) ≤ 200)) && decide ((ys.length : Int) = rs.length)) && (rs.all (rowD y.length rs.length) && ys.all (isD "bool"))))
            rw [(Bool.not_eq_true' _).mp hb5, Bool.false_and, Bool.and_false]
            exact hu
          · refine AsKit.s_ret (K := K) (d_eqTo (d_all (bs := ys.map (isD "bool")) (d_eqTo (d_lcT (fun _ => true) (fun d => PyData.bool (isD "bool" d)) (d_var (b3 (e13.trans e4))) (by omega) (fun _ _ _ => rfl) fun d hd x G eG hx k hk => hk _ rfl (fun H3 e3 Q q => q H3 (Ex.refl H3)) fun _ => d_isD (d_var ⟨_, rfl, hx⟩)) (congrArg PyData.list ey))) (congrArg PyData.bool List.all_map)) fun u H5 e5 hu => fin u H5 ((((e1.trans e2).trans e3).trans e4).trans e5) ?_
            show Dp K H5 u (.bool (((decide ((1 : Int) ≤ rs.length) && decide ((rs.length : Int) ≤ 200)) && decide ((ys.length : Int) = rs.length)) && (rs.all (rowD y.length rs.length) && ys.all (isD "bool"))))
            rw [z, (Bool.not_eq_false' _).mp hb5, Bool.true_and, Bool.true_and]
            exact hu
  · have hs : isD "tuple" d = false := by simpa using hs
    refine Evl.q_when (b := !(isD "tuple" d) || false) (Evl.et_or (Evl.et_not (t_ofB (d_isD (d_var a0)))) fun h => by rw [hs] at h; cases h) (fun hb1 H1 e1 => AsKit.s_ret (K := K) d_bl fun u H2 e2 hu => q u H2 (e1.trans e2) ?_) fun hb1 => by rw [hs] at hb1; cases hb1
    show Dp K H2 u (.bool (readerD d))
    rw [readerD_no hs]
    exact hu
end
end K27

set_option maxHeartbeats 4000000
set_option autoImplicit false
/-! a walk over a text's signs; the place of a sign. -/
namespace AsKit
open PySem PySem.Spec PyProof.Rows L2 AsSort
open Evl (Ex Ev EvT EvA)
theorem for_signs {y : Str} {g : TG} {tb : TS} {D : Ends} {σ : L2.St} {H : Hp} (Pv : Nat → L2.St → Hp → Prop) (h0 : Pv 0 σ H)
    (hs : ∀ i c σ H, y.cps.toList[i]? = some c → Pv i σ H → g (.str ⟨#[c]⟩) σ H fun σ2 H2 => tb { D with nx := Pv (i + 1), ct := Pv (i + 1), bk := D.nx } σ2 H2) (hd : ∀ σ H, Pv y.cps.toList.length σ H → D.nx σ H) :
    ∃ W : Nat → Nat → L2.St → Hp → Prop, (∃ m, W 0 m σ H) ∧ ∀ i m σ H, W i m σ H →
      ((Its y).stop i H ∧ D.nx σ H) ∨ ((Its y).go i H ∧ ∃ N : L2.St → Hp → Prop, (∀ σ' H', N σ' H' → ∃ m', m' < m ∧ W (i + 1) m' σ' H') ∧ ∀ x H', (Its y).yld i H x H' → g x σ H' fun σ2 H2 => tb { D with nx := N, ct := N, bk := D.nx } σ2 H2) := by
  have hsz : y.cps.toList.length = y.cps.size := Array.length_toList
  refine ⟨fun i m σ H => m = y.cps.toList.length - i ∧ i ≤ y.cps.toList.length ∧ Pv i σ H, ⟨_, rfl, Nat.zero_le _, h0⟩, ?_⟩
  rintro i m σ H ⟨rfl, hi, p⟩
  by_cases hlt : i < y.cps.toList.length
  · refine .inr ⟨by show i < y.cps.size; omega, Pv (i + 1), fun σ' H' p' => ⟨y.cps.toList.length - (i + 1), by omega, rfl, hlt, p'⟩, fun x H' z => ?_⟩
    obtain ⟨e, c, hc, rfl⟩ := z
    subst e
    exact hs i c σ _ (by rw [Array.getElem?_toList]; exact hc) p
  · have e : i = y.cps.toList.length := by omega
    subst e
    exact .inl ⟨by show y.cps.size ≤ _; omega, hd σ H p⟩
/-- the place of c -/
theorem index0_one {z : Str} {c k : Nat} (h : z.cps.toList[k]? = some c) (hno : ∀ j, j < k → z.cps.toList[j]? ≠ some c) : Txt.index0 z ⟨#[c]⟩ = some k := by
  have hm : ∀ i, (i + (⟨#[c]⟩ : Str).length ≤ z.length ∧ Builtin.Str.subAt z ⟨#[c]⟩ i = true) ↔ z.cps.toList[i]? = some c := fun i => StrLaws.subAt_one z c i
  unfold Txt.index0
  rcases StrLaws.occ_head z ⟨#[c]⟩ 1 (Nat.le_refl _) with ⟨_, h1⟩ | ⟨i, r, h1, h2, h3⟩
  · exact (h1 k ((hm k).mpr h)).elim
  · rw [h1]
    have h4 : z.cps.toList[i]? = some c := (hm i).mp h2
    have e : i = k := by
      rcases Nat.lt_trichotomy i k with l | l | l
      · exact (hno i l h4).elim
      · exact l
      · exact (h3 k l ((hm k).mpr h)).elim
    rw [e]
    rfl
/-- s.index(c), c one of s's signs -/
def rIdx : L2.St → V → List V → Hp → VK → Prop := rIndexX fun _ _ _ _ => False
theorem d_index {K : PySem.W.Frag} {σ : L2.St} {H : Hp} {to te : TE} {z : Str} {c k : Nat} (h : EvD K to σ H (.str z)) (h2 : EvD K te σ H (.str ⟨#[c]⟩)) (hk : z.cps.toList[k]? = some c) (hno : ∀ j, j < k → z.cps.toList[j]? ≠ some c) :
    EvD K (tBMS K "str" rIdx to (tCons te tNil)) σ H (.int (k : Int)) := fun H1 a Q q =>
  h H1 a _ fun v H2 x hd => by
    cases hd
    have e := index0_one hk hno
    refine ⟨?_, h2 H2 (a.trans x) _ fun w H3 y he => ?_⟩
    · exact rfl
    · cases he
      refine ⟨z, ⟨#[c]⟩, rfl, rfl, fun k' hk' => ?_, fun n => by rw [e] at n; cases n⟩
      rw [e] at hk'
      cases hk'
      exact q _ H3 (x.trans y) (.int _)
theorem pe_index {X : Cx} {o e : Expr} {to te : TE} {apos cpos : Pos} (hc : X.calm = true) (ho : PE X o to) (he : PE X e te) (hbase : attributeBase o "index" X.env (eval o X.env) = eval o X.env := by rfl)
    (hfew : ((backTo cpos (starEach [e] X.env)).all (fun x => !x.1) && (backToKw cpos (keywordEach [] X.env)).all (fun x => x.1.isSome) && decide ([e].length + ([] : List Keyword).length + (if ([] : List Keyword).isEmpty then 0 else 1) < 30)) = true := by rfl)
    (hline : (apos.endLine == cpos.line) = true := by rfl) (hs : starEach [e] X.env = (false, eval e X.env) :: starEach [] X.env := by rfl) (hplain : (backTo cpos (starEach [] X.env)).any (·.1) = false := by rfl) :
    PE X (.Call (.Attribute o "index" apos) [e] [] cpos) (tBMS X.K "str" rIdx to (tCons te tNil)) :=
  pe_bmS PySem.F.plainAttrs_str PySem.F.slot_str_index PySem.F.type_str_index (mt_indexX hc takes_none5) ho (pa_cons he pa_nil hs) hbase hfew hline hs hplain
end AsKit

set_option maxHeartbeats 4000000
set_option autoImplicit false
/-! readers as machines; the stand behind a text. -/
namespace K27
open PySem PySem.Spec PyProof.Rows L2 AsSort AsKit
open Evl (Ex Ev EvT EvA)
/-- a reader -/
structure Mach where
  y : Str
  rs : List (List Nat)
  ys : List Bool
def rowP (r : List Nat) : PyData := .tuple (r.map fun (n : Nat) => PyData.int n)
def Mach.d (M : Mach) : PyData := .tuple [.str M.y, .tuple (M.rs.map rowP), .tuple (M.ys.map PyData.bool)]
structure Mach.Ok (M : Mach) : Prop where
  ls : isLetS M.y = true
  yl : M.y.length ≤ 4
  n1 : 1 ≤ M.rs.length
  n2 : M.rs.length ≤ 200
  ye : M.ys.length = M.rs.length
  row : ∀ r ∈ M.rs, r.length = M.y.length ∧ ∀ s ∈ r, s < M.rs.length
def pos (c : Nat) : List Nat → Nat
  | [] => 0
  | x :: r => if x = c then 0 else pos c r + 1
theorem pos_at {c : Nat} : ∀ {l : List Nat}, c ∈ l → l[pos c l]? = some c
  | [], h => nomatch h
  | x :: r, h => by
    unfold pos
    by_cases e : x = c
    · rw [if_pos e, e]
      rfl
    · rw [if_neg e]
      rcases List.mem_cons.mp h with z | z
      · exact (e z.symm).elim
      · exact pos_at z
theorem pos_first {c : Nat} : ∀ {l : List Nat} (j : Nat), j < pos c l → l[j]? ≠ some c
  | [], j, h => nomatch h
  | x :: r, j, h => by
    unfold pos at h
    by_cases e : x = c
    · rw [if_pos e] at h
      exact (nomatch h)
    · rw [if_neg e] at h
      cases j with
      | zero => exact fun z => e (Option.some.inj z)
      | succ j => exact pos_first (l := r) j (by omega)
theorem pos_lt {c : Nat} {l : List Nat} (h : c ∈ l) : pos c l < l.length := (List.getElem?_eq_some_iff.mp (pos_at h)).1
def Mach.step (M : Mach) (s c : Nat) : Nat := (M.rs.getD s []).getD (pos c M.y.cps.toList) 0
def Mach.led (M : Mach) (s : Nat) (cs : List Nat) : Nat := cs.foldl M.step s
theorem step_ok {M : Mach} (h : M.Ok) {s c : Nat} (hs : s < M.rs.length) (hc : c ∈ M.y.cps.toList) : ∃ r, M.rs[s]? = some r ∧ r[pos c M.y.cps.toList]? = some (M.step s c) ∧ M.step s c < M.rs.length := by
  have h1 : M.rs[s]? = some M.rs[s] := List.getElem?_eq_getElem hs
  obtain ⟨h2, h3⟩ := h.row _ (List.getElem_mem hs)
  have hl : M.y.cps.toList.length = M.y.length := Array.length_toList
  have hp : pos c M.y.cps.toList < (M.rs[s]).length := by have := pos_lt hc; omega
  have h4 : (M.rs[s])[pos c M.y.cps.toList]? = some (M.rs[s])[pos c M.y.cps.toList] := List.getElem?_eq_getElem hp
  have e : M.step s c = (M.rs[s])[pos c M.y.cps.toList] := by
    unfold Mach.step
    have e1 : M.rs.getD s [] = M.rs[s] := by rw [List.getD_eq_getElem?_getD, h1, Option.getD_some]
    rw [e1, List.getD_eq_getElem?_getD, h4, Option.getD_some]
  refine ⟨_, h1, by rw [e]; exact h4, ?_⟩
  rw [e]
  exact h3 _ (List.getElem_mem hp)
theorem led_lt {M : Mach} (h : M.Ok) : ∀ (cs : List Nat) (s : Nat), s < M.rs.length → (∀ c ∈ cs, c ∈ M.y.cps.toList) → M.led s cs < M.rs.length
  | [], _, hs, _ => hs
  | c :: cs, s, hs, hc => led_lt h cs (M.step s c) (step_ok h hs (hc c (List.mem_cons_self ..))).choose_spec.2.2 fun x hx => hc x (List.mem_cons_of_mem _ hx)
abbrev sStandFrom : Stmt := top 45
abbrev sStandBehind : Stmt := top 46
section
variable {P : Program} {w : World} {K : PySem.W.Frag} {mg : Str → Option Value} {base : Heap}
abbrev nStandFrom : List Str := ["reader", "stand", "text", "letters", "rows", "_", "now", "letter"]
theorem sc_stand_from : FnScope nStandFrom ["reader", "stand", "text"] (defScope sStandFrom) := ⟨rfl, rfl, rfl, by decide +kernel, rfl, by decide +kernel, by decide +kernel⟩
def spStandFrom (K : PySem.W.Frag) : Sp := fun vs H Q _ => ∃ (M : Mach) (s : Nat) (z : Str), DpAll K H vs [M.d, .int (s : Int), .str z] ∧ M.Ok ∧ s < M.rs.length ∧ allIn M.y z = true ∧ ∀ H', Ex H H' → Q (.int (M.led s z.cps.toList : Nat)) H'
theorem c_stand_from (D : Df K mg "stand_from" sStandFrom) (hb : Bl mg) : Cl P w K mg base 1 "stand_from" (spStandFrom K) [] := by
  refine cl_of D sc_stand_from (fun vs H Q E ⟨M, s, z, h, _⟩ => dpAll_len h) (fun _ _ _ _ _ _ us hl => match us, hl with | [_, _, _], _ => rfl) fun f cdv A outer s H vs Q E hr h => ?_
  obtain ⟨M, s0, z, hd, ok, hs0, hz, q⟩ := h
  obtain ⟨v, v1, v2, rfl, h0, hst, h1⟩ := dp3 hd
  refine ⟨_, pss_cons (ps_asg (pv 0) (pg_tup rfl (pgs_cons (pg_name (i := 3) sc_stand_from.nd rfl (.inl rfl)) (pgs_cons (pg_name (i := 4) sc_stand_from.nd rfl (.inl rfl)) (pgs_cons (pg_name (i := 5) sc_stand_from.nd rfl (.inl rfl)) pgs_nil)))))
    (pss_cons (ps_set (i := 6) sc_stand_from.nd rfl (.inl rfl) (pv 1))
    (pss_cons (ps_for PassesOwn.never rfl (pi_str (pv 2)) (pg_name (i := 7) sc_stand_from.nd rfl (.inl rfl)) (pss_one (ps_set (i := 6) sc_stand_from.nd rfl (.inl rfl) (pe_ix ix_tup (pe_ix ix_tup (pv 4) (pv 6) (fun _ _ => rfl)) (pe_index rfl (pv 3) (pv 7)) (fun _ _ => rfl)))))
    (pss_one (ps_ret (pv 6))))), ?_⟩
  cases h1
  cases hst
  refine ⟨v, rfl, g_three h0 fun va vb vc ha hb2 hc => ?_⟩
  refine ⟨.int (s0 : Int), rfl, .str z, rfl, z, rfl, ?_⟩
  have hal : ∀ c ∈ z.cps.toList, c ∈ M.y.cps.toList := fun c hc => of_decide_eq_true (List.all_eq_true.mp hz c hc)
  refine for_signs (fun i σ' H' => ∃ x7, σ' = [some v, some (.int (s0 : Int)), some (.str z), some va, some vb, some vc, some (.int (M.led s0 (z.cps.toList.take i) : Nat)), x7] ∧ Ex H H') ⟨_, rfl, Ex.refl H⟩ (fun i c σ' H' hi p => ?_) fun σ' H' p => ?_
  · obtain ⟨x7, rfl, e⟩ := p
    have hcm : c ∈ M.y.cps.toList := hal c (List.mem_of_getElem? hi)
    have hlt := led_lt ok (z.cps.toList.take i) s0 hs0 fun x hx => hal x (List.mem_of_mem_take hx)
    obtain ⟨r, hr1, hr2, _⟩ := step_ok ok hlt hcm
    have et : z.cps.toList.take (i + 1) = z.cps.toList.take i ++ [c] := by rw [List.take_add_one, hi]; simp
    obtain ⟨σ9, e9⟩ : ∃ σ9 : L2.St, σ9 = [some v, some (.int (s0 : Int)), some (.str z), some va, some vb, some vc, some (.int (M.led s0 (z.cps.toList.take i) : Nat)), some (.str ⟨#[c]⟩)] := ⟨_, rfl⟩
    have c3 : At K σ9 H' 3 (.str M.y) := ⟨va, by rw [e9]; rfl, dp_ex e ha⟩
    have c4 : At K σ9 H' 4 (.tuple (M.rs.map rowP)) := ⟨vb, by rw [e9]; rfl, dp_ex e hb2⟩
    have c6 : At K σ9 H' 6 (.int (M.led s0 (z.cps.toList.take i) : Nat)) := ⟨_, by rw [e9]; rfl, .int _⟩
    have c7 : At K σ9 H' 7 (.str ⟨#[c]⟩) := ⟨_, by rw [e9]; rfl, .str _⟩
    show tAsg _ _ _ ([some v, some (.int (s0 : Int)), some (.str z), some va, some vb, some vc, some (.int (M.led s0 (z.cps.toList.take i) : Nat)), some (.str ⟨#[c]⟩)] : L2.St) H'
    rw [← e9]
    refine AsKit.s_asg (K := K) (d := .int (M.led s0 (z.cps.toList.take (i + 1)) : Nat)) (d_ixT (ds := r.map fun (n : Nat) => PyData.int n) (i := (pos c M.y.cps.toList : Nat)) (d_ixT (d := rowP r) (d_var c4) (d_var c6) (atI_nat (by rw [List.getElem?_map, hr1]; rfl))) (d_index (d_var c3) (d_var c7) (pos_at hcm) fun j hj => pos_first j hj) (atI_nat ?_)) fun u H2 e2 hu => ?_
    · rw [List.getElem?_map, hr2, et]
      unfold Mach.led
      rw [List.foldl_append]
      rfl
    · cases hu
      rw [e9]
      exact ⟨_, rfl, e.trans e2⟩
  · obtain ⟨x7, rfl, e⟩ := p
    rw [List.take_length]
    exact ⟨_, rfl, q H' e⟩
theorem sc_stand_behind : FnScope ["reader", "text"] ["reader", "text"] (defScope sStandBehind) := ⟨rfl, rfl, rfl, by decide +kernel, rfl, by decide +kernel, by decide +kernel⟩
def spStandBehind (K : PySem.W.Frag) : Sp := fun vs H Q _ => ∃ (M : Mach) (z : Str), DpAll K H vs [M.d, .str z] ∧ M.Ok ∧ allIn M.y z = true ∧ ∀ H', Ex H H' → Q (.int (M.led 0 z.cps.toList : Nat)) H'
theorem c_stand_behind (D : Df K mg "stand_behind" sStandBehind) (C1 : Cl P w K mg base 1 "stand_from" (spStandFrom K) []) : Cl P w K mg base 2 "stand_behind" (spStandBehind K) [] := by
  refine cl_of D sc_stand_behind (fun vs H Q E ⟨M, z, h, _⟩ => dpAll_len h) (fun _ _ _ _ _ _ us hl => match us, hl with | [_, _], _ => rfl) fun f cdv A outer s H vs Q E hr h => ?_
  obtain ⟨M, z, hd, ok, hz, q⟩ := h
  obtain ⟨v, v2, rfl, h0, h1⟩ := dp2 hd
  refine ⟨_, pss_one (ps_ret (C8.pe_c C1 hr (by decide) (by rfl) (pa_cons (pv 0) (pa_cons pe_int (pa_cons (pv 1) pa_nil))))), ?_⟩
  exact ⟨v, rfl, v2, rfl, M, 0, z, .cons h0 (.cons (.int 0) (.cons h1 .nil)), ok, by have := ok.n1; omega, hz, fun H' e => q H' e⟩
end
end K27

set_option maxHeartbeats 4000000
set_option autoImplicit false
/-! lambdas that capture names, with defaults or without: made, kept in a list, called by a def that they are handed to. -/
namespace AsAct
open PySem PySem.Spec PyProof.Rows L2 LamX NdefX
/-- a lambda's words; bn: its parameters, all of which have defaults -/
structure Lw where
  params : Arguments
  body : Expr
  scope : Scope
  bn : List Str
abbrev lfd (L : Lw) (q : Str) (cl : List (Str × Addr)) (dV doc pm ctv : Value) (c' : Addr) : FuncData := PySem.W.kdv_fn "<lambda>" q L.params (.expr L.body) L.scope cl dV doc pm (.ref c') ctv
/-- the lambda's object -/
def LmO (f : Addr) (L : Lw) (q : Str) (cl : List (Str × Addr)) (dV : Value) (c' : Addr) : HO := .ext fun h => ∃ (od : Option Addr) (sl : Array (Option Value)) (doc pm ctv : Value), h.get? f = some (⟨.type "function", od, .func (lfd L q cl dV doc pm ctv c'), sl⟩ : Obj)
/-- its defaults -/
def DfO (T : Addr) (ds : List Value) : HO := .ext fun h => h.get? T = some (PySem.W.kdv_tup ds)
/-- the lambda stands at f -/
def LmAt (X : Cx) (f : Addr) (L : Lw) (H : Hp) : Prop := ∃ (dV : Value) (c' : Addr) (ds : List Value), H f = some (LmO f L (X.env.qual ++ "<lambda>") (cloFrom X.env.cells L.scope.names []) dV c') ∧ H c' = some (CodeO c' (X.env.qual ++ "<lambda>")) ∧ ds.length = L.bn.length ∧
  ((ds = [] ∧ dV = .none) ∨ (ds ≠ [] ∧ ∃ T, dV = .ref T ∧ H T = some (DfO T ds)))
theorem LmAt.ext {X : Cx} {f : Addr} {L : Lw} {H G : Hp} (h : LmAt X f L H) (e : ExtN H G) : LmAt X f L G := by
  obtain ⟨dV, c', ds, h1, h2, h3, h4⟩ := h
  refine ⟨dV, c', ds, e _ _ h1 fun ps z => ?_, e _ _ h2 codeO_ne, h3, h4.imp id fun ⟨en, T, e1, e2⟩ => ⟨en, T, e1, e _ _ e2 fun ps z => ?_⟩⟩
  · unfold LmO at z; cases z
  · unfold DfO at z; cases z
section
variable {X : Cx} {pins : List (Addr × Obj)} {σ : L2.St} {H : Hp} {s : Shared}
theorem inv_lm {L : Lw} {q : Str} {cl : List (Str × Addr)} {dV doc pm ctv : Value} {c' : Addr} {t' : Nat} (I : Inv X pins σ H s) :
    Inv X pins σ (upd H s.heap.objs.size (LmO s.heap.objs.size L q cl dV c')) { s with heap := s.heap.push { cls := .type "function", data := .func (lfd L q cl dV doc pm ctv c') }, toks := t' } := by
  have z : (s.heap.push ({ cls := .type "function", data := .func (lfd L q cl dV doc pm ctv c') } : Obj)).get? s.heap.objs.size = some _ := Heap.get?_push_size _ rfl
  exact I.laid (a := s.heap.objs.size) (fun b u q => Heap.get?_push_of_some _ q) (Nat.le_refl _) ⟨⟨_, _, doc, pm, ctv, z⟩, ⟨_, z⟩, fun h1 h2 ⟨od, sl, d, p, t, y⟩ st => ⟨od, sl, d, p, t, st _ y⟩⟩
/-- the tail of its making; dV its defaults -/
theorem lm_tail {T : List NTab} {nm : Nat → Nat → Str} {c P : Addr} {L : Lw} {pos : Pos} {dV : Value} {E : Value → Shared → Prop} {Q : Value → Shared → Prop} (I : Inv X pins σ H s) (TB : TabB X.base X.mg c P) (hcode : X.env.code = .ref c)
    (hm : (P, nm) ∈ T) (hn : nm pos.line pos.col = X.env.qual ++ "<lambda>") (hu : ∀ p ∈ T, p.1 = P → p.2 = nm) (hT : TabsN T H) (hfree : ∀ y ∈ L.scope.names, y.2 = .free → ∃ c, X.env.cells.lookup y.1 = some c)
    (h : ∀ (f c' : Addr) (G : Hp) (z : Shared), Inv X pins σ G z → ExtN H G → TabsN T G → H f = none → G f = some (LmO f L (X.env.qual ++ "<lambda>") (cloFrom X.env.cells L.scope.names []) dV c') → G c' = some (CodeO c' (X.env.qual ++ "<lambda>")) → Q (.ref f) z) :
    wpAny (model X.prog X.w) X.A (makeTail "<lambda>" (X.env.qual ++ "<lambda>") L.params (.expr L.body) L.scope X.env dV .none none pos pos.line) Q E s := by
  obtain ⟨ps, hP, ht, ha⟩ := (show TabN H P nm from hT _ hm)
  have bP : s.heap.BuiltinsAt X.mg P := TB.bm.keeps I.bk
  have oP : s.heap.get? P = some { cls := .none, data := .fields ps } := I.hok P _ hP
  cases hc : codeAmong pos ps.toList with
  | some cv =>
    obtain ⟨c', rfl, hco⟩ := ha pos cv hc
    rw [hn] at hco
    refine PySem.W.kdv_makeTailHit (mg := X.mg) (c := c) (P := P) (ps := ps) (closure_ok hfree) I.ok.glob (I.mod.glob.keeps I.bk) hcode (TB.code.keeps I.bk) oP ht hc bP fun ctv doc h' tk hx _ => ?_
    have I1 : Inv X pins σ H { s with heap := h', toks := tk } := I.kept hx
    have nF : H h'.objs.size = none := I1.hok.fresh (Nat.le_refl _)
    have I2 := inv_lm (L := L) (q := X.env.qual ++ "<lambda>") (cl := cloFrom X.env.cells L.scope.names []) (dV := dV) (doc := doc) (pm := (X.mg "__name__").getD .none) (ctv := ctv) (c' := c') (t' := tk) I1
    exact h h'.objs.size c' _ _ I2 (fun b o e _ => (upd_ne (ne_of_none e nF)).trans e) (hT.ext fun b o e => (upd_ne (ne_of_none e nF)).trans e) nF upd_same ((upd_ne (ne_of_none hco nF)).trans hco)
  | none =>
    refine PySem.W.kdv_makeTail (mg := X.mg) (c := c) (P := P) (ps := ps) (closure_ok hfree) I.ok.glob (I.mod.glob.keeps I.bk) hcode (TB.code.keeps I.bk) oP ht hc TB.gP bP fun c' ctv doc h' tk hx hge hlt hrec htb => ?_
    obtain ⟨c2, oc, vs, t, e2, hoc, hd, hv⟩ := hrec
    cases e2
    have nC : H c' = none := I.hok.fresh hge
    obtain ⟨more, emore⟩ : ∃ more : Array Value, more = #[rawInt pos.line, rawInt pos.col, .ref c'] := ⟨_, rfl⟩
    rw [← emore] at htb
    obtain ⟨G, eG⟩ : ∃ G, G = upd (upd H P (.tbl (ps ++ more))) c' (CodeO c' (X.env.qual ++ "<lambda>")) := ⟨_, rfl⟩
    have I1 : Inv X pins σ G { s with heap := h', toks := tk } := by
      rw [eG]
      exact inv_table (t' := tk) (more := more) (h' := h') I hP (fun b o hb e => hx b o hb e) htb hge ⟨oc, vs, t, hoc, hd, hv⟩
    have gE : ExtN H G := fun b o e n => by
      rw [eG, upd_ne (ne_of_none e nC), upd_ne (fun z => n ps (Option.some.inj (e.symm.trans (by rw [z]; exact hP))))]
      exact e
    have gC : G c' = some (CodeO c' (X.env.qual ++ "<lambda>")) := by rw [eG]; exact upd_same
    have gP : G P = some (.tbl (ps ++ more)) := by rw [eG, upd_ne (ne_of_none hP nC), upd_same]
    have eL : (ps ++ more).toList = ps.toList ++ [rawInt pos.line, rawInt pos.col, .ref c'] := by rw [emore]; simp
    have gT : TabsN T G := fun p hp => by
      by_cases hb : p.1 = P
      · rw [hu p hp hb, hb]
        refine ⟨_, gP, by rw [eL]; exact PySem.TriplesOk_snoc _ _ _ _ ht, fun p' cv hcv => ?_⟩
        rw [eL] at hcv
        rcases among_app2 _ ht hcv with z | ⟨z, z1, z2⟩
        · obtain ⟨c0, e1, e3⟩ := ha p' cv z
          exact ⟨c0, e1, gE _ _ e3 codeO_ne⟩
        · exact ⟨c', z, by rw [← z1, ← z2, hn]; exact gC⟩
      · obtain ⟨ps', a1, a2, a3⟩ := hT p hp
        refine ⟨ps', by rw [eG, upd_ne (ne_of_none a1 nC), upd_ne hb]; exact a1, a2, fun p' cv hcv => ?_⟩
        obtain ⟨c0, e1, e3⟩ := a3 p' cv hcv
        exact ⟨c0, e1, gE _ _ e3 codeO_ne⟩
    have nF : G h'.objs.size = none := I1.hok.fresh (Nat.le_refl _)
    have nF0 : H h'.objs.size = none := I.hok.fresh (Nat.le_trans hge (Nat.le_of_lt hlt))
    have I2 := inv_lm (L := L) (q := X.env.qual ++ "<lambda>") (cl := cloFrom X.env.cells L.scope.names []) (dV := dV) (doc := doc) (pm := (X.mg "__name__").getD .none) (ctv := ctv) (c' := c') (t' := tk) I1
    refine h h'.objs.size c' _ _ I2 (fun b o e n => (upd_ne (ne_of_none (gE b o e n) nF)).trans (gE b o e n)) (gT.ext fun b o e => (upd_ne (ne_of_none e nF)).trans e) nF0 upd_same ((upd_ne (Nat.ne_of_lt hlt)).trans gC)
/-- the reading of a lambda -/
def tLm (X : Cx) (T : List NTab) (L : Lw) : TE := fun _ H Q => TabsN T H ∧ ∀ (f : Addr) (G : Hp), ExtN H G → TabsN T G → H f = none → LmAt X f L G → Q (.ref f) G
theorem pe_lm0 {T : List NTab} {nm : Nat → Nat → Str} {c P : Addr} {L : Lw} {pos : Pos} (TB : TabB X.base X.mg c P) (hcode : X.env.code = .ref c) (hm : (P, nm) ∈ T) (hn : nm pos.line pos.col = X.env.qual ++ "<lambda>") (hu : ∀ p ∈ T, p.1 = P → p.2 = nm)
    (hfree : ∀ y ∈ L.scope.names, y.2 = .free → X.env.scope.names.lookup y.1 = some .cell ∨ X.env.scope.names.lookup y.1 = some .free) (h0 : L.bn = []) (hdef : defaultsOf L.params X.env = ([], []) := by rfl) : PE X (.Lambda L.params L.body L.scope pos) (tLm X T L) := by
  refine ⟨fun pins s σ H Q I ⟨hT, h⟩ => PySem.W.kla_eval hdef ?_⟩
  rw [makeFunction_eq]
  simp only [List.zip_nil_right, List.filterMap_nil, List.isEmpty_nil, if_true, pure_bind]
  refine lm_tail I TB hcode hm hn hu hT (fun y hy e => (hfree y hy e).elim (fun z => I.ok.has _ (.inl z)) fun z => I.ok.has _ (.inr z)) fun f c' G z J e1 e3 e4 e5 e6 => ⟨.ref f, G, J, rfl, h f G e1 e3 e4 ⟨.none, c', [], e5, e6, by rw [h0]; rfl, .inl ⟨rfl, rfl⟩⟩⟩
theorem pe_lm1 {T : List NTab} {nm : Nat → Nat → Str} {c P : Addr} {L : Lw} {pos p0 : Pos} {x : Str} {i : Int} {k : Nat} (TB : TabB X.base X.mg c P) (hcode : X.env.code = .ref c) (hm : (P, nm) ∈ T) (hn : nm pos.line pos.col = X.env.qual ++ "<lambda>") (hu : ∀ p ∈ T, p.1 = P → p.2 = nm)
    (hfree : ∀ y ∈ L.scope.names, y.2 = .free → X.env.scope.names.lookup y.1 = some .cell ∨ X.env.scope.names.lookup y.1 = some .free) (h0 : L.bn = [x]) (hd : L.params.defaults = [.Constant (.int i) k p0]) (hk : L.params.kw_defaults = []) : PE X (.Lambda L.params L.body L.scope pos) (tLm X T L) := by
  refine ⟨fun pins s σ H Q I ⟨hT, h⟩ => PySem.W.kdv_lam (by rw [hd]; rfl) hk ?_⟩
  rw [hd]
  refine PySem.W.kdv_all1 (thn ((pe_int (X := X) (i := i) (pos := p0)).run pins s σ H (fun v G => v = .int i ∧ G = H) I ⟨rfl, rfl⟩) fun v s1 ⟨x1, H1, I1, r1, e1, e2⟩ => PySem.W.kdv_all0 ?_)
  subst e1
  rw [e2] at I1
  rw [makeFunction_eq]
  simp only [List.zip_nil_right, List.filterMap_nil, List.isEmpty_nil, List.isEmpty_cons, Bool.false_eq_true, if_false, if_true, pure_bind]
  refine wpAny_bind (wpAny_newTextTuple ?_)
  have z : (s1.heap.push (PySem.W.kdv_tup [v])).get? s1.heap.objs.size = some _ := Heap.get?_push_size _ rfl
  have nT : H s1.heap.objs.size = none := I1.hok.fresh (Nat.le_refl _)
  have I2 : Inv X pins σ (upd H s1.heap.objs.size (DfO s1.heap.objs.size [v])) { s1 with heap := s1.heap.push (PySem.W.kdv_tup [v]) } := I1.laid (a := s1.heap.objs.size) (fun b u q => Heap.get?_push_of_some _ q) (Nat.le_refl _) ⟨z, ⟨_, z⟩, fun h1 h2 y st => st _ y⟩
  have e0 : ∀ b o, H b = some o → upd H s1.heap.objs.size (DfO s1.heap.objs.size [v]) b = some o := fun b o e => (upd_ne (ne_of_none e nT)).trans e
  refine lm_tail I2 TB hcode hm hn hu (hT.ext e0) (fun y hy e => (hfree y hy e).elim (fun z => I.ok.has _ (.inl z)) fun z => I.ok.has _ (.inr z)) fun f c' G z2 J e1 e3 e4 e5 e6 => ⟨.ref f, G, J, rfl, h f G ((ExtN.of e0).trans e1) e3 ?_ ⟨.ref s1.heap.objs.size, c', [v], e5, e6, by rw [h0]; rfl, .inr ⟨fun z => (nomatch z), _, rfl, e1 _ _ upd_same fun ps z => ?_⟩⟩⟩
  · cases q : H f with
    | none => rfl
    | some o => rw [e0 f o q] at e4; cases e4
  · unfold DfO at z; cases z
end
end AsAct

set_option maxHeartbeats 4000000
set_option autoImplicit false
/-! such a lambda called, by the def that it is handed to. -/
namespace AsAct
open PySem PySem.Spec PyProof.Rows L2 LamX NdefX
/-- its names: parameters that the maker has no names for, captured ones, globals -/
structure LmS (N : List Str) (sc : Scope) (L : Lw) : Prop where
  kind : L.scope.kind = .function
  co : L.scope.isCoroutine = false
  gen : L.scope.isGenerator = false
  nocell : ∀ y ∈ L.scope.names, y.2 ≠ .cell
  own : ∀ y ∈ L.scope.names, y.2 = .local → y.1 ∉ N
  par : ∀ x ∈ L.bn, L.scope.names.lookup x = some .local
  free : ∀ y ∈ L.scope.names, y.2 = .free → sc.names.lookup y.1 = some .cell ∨ sc.names.lookup y.1 = some .free
def lmSB (N : List Str) (sc : Scope) (L : Lw) : Bool :=
  decide (L.scope.kind = .function) && !L.scope.isCoroutine && !L.scope.isGenerator && L.scope.names.all (fun y => !decide (y.2 = .cell)) && L.scope.names.all (fun y => !decide (y.2 = .local) || !decide (y.1 ∈ N)) && L.bn.all (fun x => decide (L.scope.names.lookup x = some .local))
    && L.scope.names.all (fun y => !decide (y.2 = .free) || (decide (sc.names.lookup y.1 = some .cell) || decide (sc.names.lookup y.1 = some .free)))
theorem lmS_by {N : List Str} {sc : Scope} {L : Lw} (h : lmSB N sc L = true) : LmS N sc L := by
  unfold lmSB at h
  simp only [Bool.and_eq_true, Bool.not_eq_true', decide_eq_true_eq, List.all_eq_true, Bool.or_eq_true, decide_eq_false_iff_not] at h
  obtain ⟨⟨⟨⟨⟨⟨h1, h2⟩, h3⟩, h4⟩, h5⟩, h6⟩, h7⟩ := h
  exact ⟨h1, h2, h3, h4, fun y hy e => (h5 y hy).elim (fun z => absurd e z) id, h6, fun y hy e => (h7 y hy).elim (fun z => absurd e z) id⟩
section
variable {X : Cx} {pins : List (Addr × Obj)} {σ : L2.St} {H HZ : Hp} {s s1 : Shared}
/-- the maker's cells stand at s1 as they did at s -/
def CellsKept (X : Cx) (s s1 : Shared) (H1 : Hp) : Prop := ∀ y c, X.env.cells.lookup y = some c → H1 c = none ∧ ∀ v, s.heap.IsCell c v → s1.heap.IsCell c v
theorem CellsKept.self (I : Inv X pins σ H s) : CellsKept X s s H := fun y c e => ⟨I.freeC y c e, fun _ z => z⟩
theorem CellsKept.un {s2 : Shared} {H1 H2 : Hp} {fs ex : List Addr} (c0 : ∀ y c, X.env.cells.lookup y = some c → ∃ v, s.heap.IsCell c v) (k : CellsKept X s s1 H1) (un : Un fs ex H1 H2 s1.heap s2.heap) (nx : ∀ y c, X.env.cells.lookup y = some c → c ∉ ex) : CellsKept X s s2 H2 := fun y c e => by
  obtain ⟨n, st⟩ := k y c e
  obtain ⟨v, z⟩ := c0 y c e
  obtain ⟨o, ho, _⟩ := st v z
  refine ⟨un.free c o ho n (nx y c e), fun v z => ?_⟩
  obtain ⟨o, ho, q⟩ := st v z
  obtain ⟨sl, e2⟩ := un.any ho n (nx y c e)
  exact ⟨_, e2, q⟩
abbrev lmEnv (X : Cx) (L : Lw) (B f c' : Addr) : Env := lamEnv X L.scope B f c'
/-- at its entry, told over the maker's names -/
theorem lm_start {A : Around} {outer : List Env} {E : XK} {L : Lw} {f c' : Addr} {h1 : Heap} {tk : Nat} {m : Str → Option Value} (I : Inv X pins σ H s) (S : LmS X.N X.env.scope L) (e0 : Env0 X.prog X.w X.K X.mg X.base A outer s1 HZ) (hd : A.handled = none)
    (ck : CellsKept X s s1 HZ) (hns : h1.Ns s1.heap.objs.size m) (kp : ∀ b o, s1.heap.get? b = some o → h1.get? b = some o) : Inv (lamCx X A outer s1 HZ E L.scope f c') [] σ HZ { s1 with heap := h1, toks := tk } := by
  have hfree : ∀ y ∈ L.scope.names, y.2 = .free → ∃ c, X.env.cells.lookup y.1 = some c := fun y hy e => (S.free y hy e).elim (fun k => I.ok.has _ (.inl k)) fun k => I.ok.has _ (.inr k)
  have cm : ∀ {y c}, (cloFrom X.env.cells L.scope.names []).lookup y = some c → X.env.cells.lookup y = some c := fun {y c} e => by
    rcases cloFrom_mem (PySem.mem_of_lookup e) with z | ⟨z1, z2⟩
    · cases z
    · obtain ⟨c1, q⟩ := hfree _ z1 rfl
      have q : X.env.cells.lookup y = some c1 := q
      have e2 : c = c1 := by rw [z2, q] <;> rfl
      rw [e2]
      exact q
  have look : ∀ {y}, L.scope.names.lookup y = some .free → ∃ c, (cloFrom X.env.cells L.scope.names []).lookup y = some c := fun {y} z => mem_lookup (cloFrom_has (cells := X.env.cells) (acc := []) (show (y, NameKind.free) ∈ L.scope.names from PySem.mem_of_lookup z))
  have stay : ∀ {y : Str} {c : Addr} {v : Option Value}, X.env.cells.lookup y = some c → s.heap.IsCell c v → h1.IsCell c v := fun {y c v} n z => by
    obtain ⟨o, ho, q⟩ := (ck y c n).2 v z
    exact ⟨_, kp _ _ ho, q⟩
  have noA : ∀ b : Addr, b ∉ (lamCx X A outer s1 HZ E L.scope f c').ex := fun b z => absurd (show b ∈ ([] : List Addr) from z) (by simp)
  refine ⟨⟨e0.mod, S.kind, rfl, rfl, Nat.le_refl _, fun y z c e1 e2 => I.ok.inj y z c (cm e1) (cm e2), fun y hy => ?_, fun y c z _ => ?_, fun _ => hd, Around.frames_deeper e0.frames, .inr ⟨rfl, rfl⟩, fun b z => absurd z (noA b), e0.bs, e0.bsz,
      fun b _ _ => noA b, fun b z => absurd z (noA b), e0.funs, e0.frf⟩,
    rfl, e0.bare, Un.kept kp, ⟨_, hns, fun i y v e1 e2 e3 => ?_⟩, fun y c e => ?_, e0.hok.fresh (Nat.le_refl _), fun y c e => ?_, fun q hq => absurd (show q ∈ ([] : List (Addr × Obj)) ++ [] from hq) (by simp), e0.hok.kept kp, I.len⟩
  · have hy : L.scope.names.lookup y = some .cell ∨ L.scope.names.lookup y = some .free := hy
    exact hy.elim (fun z => absurd rfl (S.nocell _ (PySem.mem_of_lookup z))) look
  · have z : false = true := z
    cases z
  · have e3 : Vis L.scope y := e3
    have e1 : X.N[i]? = some y := e1
    rcases e3 with k | k | k
    · exact absurd (List.mem_of_getElem? e1) (S.own _ (PySem.mem_of_lookup k) rfl)
    · exact absurd rfl (S.nocell _ (PySem.mem_of_lookup k))
    · obtain ⟨m', hn, hl⟩ := I.loc
      have way := S.free _ (PySem.mem_of_lookup k) rfl
      obtain ⟨u, r, q⟩ := hl i y v e1 e2 (way.elim (fun z => .inr (.inl z)) fun z => .inr (.inr z))
      obtain ⟨c2, h2⟩ := look k
      refine ⟨u, r, .inr ⟨.inr k, c2, h2, ?_⟩⟩
      have c1 := cm h2
      rcases q with ⟨k', _⟩ | ⟨_, c3, e', z⟩
      · have k' : X.env.scope.names.lookup y = some .local := k'
        rcases way with k2 | k2 <;> rw [show X.env.scope.names.lookup y = _ from k2] at k' <;> cases k'
      · rw [c1] at e'
        cases e'
        exact stay c1 z
  · obtain ⟨u, z⟩ := I.cell y c (cm e)
    exact ⟨u, stay (cm e) z⟩
  · exact (ck y c (cm e)).1
/-- what a lambda's body promises: its reading, over the maker's names -/
structure LmP (X : Cx) (k : Nat) (L : Lw) (t : XK → TE) : Prop where
  S : LmS X.N X.env.scope L
  bind : ∀ (s : Shared) (q : Str) (cl : List (Str × Addr)) (dV doc pm ctv : Value) (c' : Addr) (ds : List Value), ds.length = L.bn.length → ((ds = [] ∧ dV = .none) ∨ (ds ≠ [] ∧ ∃ T, dV = .ref T ∧ s.heap.get? T = some (PySem.W.kdv_tup ds))) → BindsTo s (lfd L q cl dV doc pm ctv c') ⟨[], []⟩ (L.bn.zip ds)
  body : ∀ (A : Around) (outer : List Env) (s : Shared) (H : Hp) (E : XK) (f c' : Addr), Room k (A.deeper (lmEnv X L s.heap.objs.size f c')) → PE (lamCx X A outer s H E L.scope f c') L.body (t E)
/-- call(), in the def that got the lambda: I is the maker's state ahead of that def's call -/
theorem pe_acts {CXg : CXT} {Eg : XK} {Ng : List Str} {qg : Str} {sg : Scope} {g f : Addr} {cdg : Value} {L : Lw} {t : XK → TE} {k i : Nat} {a : Str} {pn : List (Addr × Obj)} {xe : Value → Shared → Prop} {W : WX} {E : XK} {p1 p2 : Pos}
    (I : Inv X pins σ H s) {s1 : Shared} {H1 : Hp} (ck : CellsKept X s s1 H1) (P : LmP X k L t) (tk : Takes ((cxOf CXg X.prog X.w X.K X.mg X.base Ng qg sg g cdg X.A X.stack s1 H1 Eg).tr pn xe) W) (hW : ∀ cls d σ' H', E cls d H' → W cls d σ' H')
    (hr : Room (k + 1) (X.A.deeper (envOfC qg sg s1.heap.objs.size g cdg))) (hN : Ng[i]? = some a) (hv : Vis sg a) (hd : (a == ("__debug__" : Str)) = false := by decide) (hcd : (a == ("__classdict__" : Str)) = false := by decide) :
    PE ((cxOf CXg X.prog X.w X.K X.mg X.base Ng qg sg g cdg X.A X.stack s1 H1 Eg).tr pn xe) (.Call (.Name a p1) [] [] p2) (fun σZ HZ Q => σZ[i]? = some (some (.ref f)) ∧ LmAt X f L HZ ∧ t E σ HZ Q) := by
  refine ⟨fun pinsZ sZ σZ HZ Q IZ ⟨hs, hL, ht⟩ => ?_⟩
  refine wpAny_Call_Name_kw (thn ((pe_var (pos := p1) (i := i) hN hv hd hcd).run pinsZ sZ σZ HZ (fun v G => v = .ref f ∧ G = HZ) IZ ⟨.ref f, hs, rfl, rfl⟩) fun u s2 ⟨v, H2, I1, r1, ev, eH⟩ => ?_)
  subst ev
  rw [eH] at I1
  obtain rfl : u = Value.ref f := r1
  obtain ⟨dV, c', ds, h1, h2, h3, h4⟩ := hL
  obtain ⟨od, sl, doc, pm, ctv, of1⟩ : ∃ (od : Option Addr) (sl : Array (Option Value)) (doc pm ctv : Value), s2.heap.get? f = some (⟨.type "function", od, .func (lfd L (X.env.qual ++ "<lambda>") (cloFrom X.env.cells L.scope.names []) dV doc pm ctv c'), sl⟩ : Obj) := (I1.hok f _ h1).1
  have hdf : (ds = [] ∧ dV = .none) ∨ (ds ≠ [] ∧ ∃ T, dV = .ref T ∧ s2.heap.get? T = some (PySem.W.kdv_tup ds)) := h4.imp id fun ⟨en, T, e1, e2⟩ => ⟨en, T, e1, (I1.hok T _ e2).1⟩
  refine PySem.W.callWith_F0 ⟨_, _, _, _, of1⟩ ?_
  have ck2 : CellsKept X s s2 HZ := ck.un (fun y c e => I.cell y c e) I1.base fun _ _ _ z => absurd (show _ ∈ ([] : List Addr) from z) (by simp)
  have rc : codeAny (model X.prog X.w) (X.A.deeper (envOfC qg sg s1.heap.objs.size g cdg)) (.call (.ref f) ⟨[], []⟩) (CR (L2.CX X.prog X.w) (envOfC qg sg s1.heap.objs.size g cdg :: X.stack) X.prog X.w HZ s2 Q E) s2 := by
    refine PySem.W.kla_callFunE hr.depth of1 rfl P.S.co P.S.gen rfl (codeO_at I1.hok h2) ?_
    refine P.bind s2 _ _ dV doc pm ctv c' ds h3 hdf _ _ _ _ ?_
    refine wpAny_newFunctionEnv P.S.nocell (fun ⟨n, _⟩ hy => P.S.par n (List.of_mem_zip hy).1) (fun hh hns hsb => ⟨I1.nolimit.fresh _ hsb, ?_⟩) P.S.kind
    show codeAny _ _ (.expr L.body (lmEnv X L s2.heap.objs.size f c')) _ _
    have kp : ∀ b o, s2.heap.get? b = some o → hh.get? b = some o := fun b o e => hsb.extBut b o (Nat.ne_of_lt (Heap.lt_size e)) (Heap.get?_push_of_some _ e)
    have J := lm_start (E := E) (L := L) (f := f) (c' := c') (tk := s2.toks + (L.bn.zip ds).length) I P.S I1.env0 hr.hd ck2 hns kp
    refine PySem.W.kla_codeExpr (wpAny_mono ((P.body _ _ s2 HZ E f c' (hr.deeper _)).run [] _ _ HZ Q J ht) (fun v s' hq => ?_) fun e s' hq => hq)
    obtain ⟨w', H', J', rv, q⟩ := hq
    exact ⟨w', H', J'.os, J'.bare, J'.base, J'.hok, rv, q⟩
  have hx : Passes (L2.CX X.prog X.w) ((cxOf CXg X.prog X.w X.K X.mg X.base Ng qg sg g cdg X.A X.stack s1 H1 Eg).tr pn xe) E := passes_call tk hW
  refine wpAny_call (codeAny_mono rc fun r s' hq => ?_)
  cases r with
  | error e => exact hx pinsZ σZ HZ s2 e s' I1 hq
  | ok fl =>
    cases fl with
    | ret u => exact I1.after hq
    | next => exact False.elim hq
    | brk => exact False.elim hq
    | cont => exact False.elim hq
/-- the def g that calls the one lambda that it gets; TT: what it makes of the lambda's reading -/
def GivesA (X : Cx) (Ng : List Str) (x : Str) (sg : Scope) (g : Addr) (cdg : Value) (bg : List Stmt) (a : Str) (TT : (XK → Hp → VK → Prop) → Hp → VK → Prop) : Prop :=
  ∀ (f : Addr) (s : Shared) (H : Hp) (Q : VK) (PH : Hp → Prop) (tl : XK → Hp → VK → Prop),
    (∀ (W : WX) (pn : List (Addr × Obj)) (xe : Value → Shared → Prop) (E : XK) (p1 p2 : Pos), Takes ((cxOf C8.CX0 X.prog X.w X.K X.mg X.base Ng x sg g cdg X.A X.stack s H C8.E0).tr pn xe) W → (∀ cls d σ' H', E cls d H' → W cls d σ' H') →
      PE ((cxOf C8.CX0 X.prog X.w X.K X.mg X.base Ng x sg g cdg X.A X.stack s H C8.E0).tr pn xe) (.Call (.Name a p1) [] [] p2) (fun σZ HZ Q => σZ[0]? = some (some (.ref f)) ∧ PH HZ ∧ tl E HZ Q)) →
    PH H → TT tl H Q → ∃ t, PSs (cxOf C8.CX0 X.prog X.w X.K X.mg X.base Ng x sg g cdg X.A X.stack s H C8.E0).nox bg t ∧ t { nx := fun _ H' => Q .non H', rt := Q } (L2.start Ng [.ref f]) H
/-- the def at g, told as a name of the module -/
structure AskD (K : PySem.W.Frag) (mg : Str → Option Value) (x : Str) (st : Stmt) (g : Addr) (cdg : Value) : Prop where
  m : mg x = some (.ref g)
  kp : PySem.W.keepIn K (.ref g) = true
  lk : ∃ (dV kV doc pm ct oc : Value) (an od : Option Addr) (osl : Array (Option Value)), K.lookup g = some ⟨oc, od, .func (PySem.W.fnOf x x (defArgs st) (defBody st) (defScope st) dV kV doc pm an cdg ct), osl⟩ ∧ L2.Binds K (PySem.W.fnOf x x (defArgs st) (defBody st) (defScope st) dV kV doc pm an cdg ct) (["call"] : List Str) []
  cd : PySem.W.codeIn K cdg x = true
theorem ask_code {TT : (XK → Hp → VK → Prop) → Hp → VK → Prop} {x : Str} {sg : Scope} {bg : List Stmt} {pg : Arguments} {g f : Addr} {cdg dV kV doc pm ct oc : Value} {an od : Option Addr} {osl : Array (Option Value)} {Ng : List Str} {k : Nat} {L : Lw} {t : XK → TE} {Q : VK} {H1 : Hp}
    (hNg : Ng[0]? = some ("call" : Str)) (hva : Vis sg "call") (hG : GivesA X Ng x sg g cdg bg "call" TT) (hr : Room (k + 2) X.A) (I : Inv X pins σ H s) (ck : CellsKept X s s1 H1) (e0 : Env0 X.prog X.w X.K X.mg X.base X.A X.stack s1 H1)
    (lk : X.K.lookup g = some ⟨oc, od, .func (PySem.W.fnOf x x pg bg sg dV kV doc pm an cdg ct), osl⟩) (hb : L2.Binds X.K (PySem.W.fnOf x x pg bg sg dV kV doc pm an cdg ct) (["call"] : List Str) []) (cd : PySem.W.codeIn X.K cdg x = true) (Sg : FnScope Ng ["call"] sg)
    (hL : LmAt X f L H1) (hP : LmP X k L t) (hT : TT (fun E H' Q' => t E σ H' Q') H1 Q) : codeAny (model X.prog X.w) X.A (.call (.ref g) ⟨[.ref f], []⟩) (CR C8.CX0 X.stack X.prog X.w H1 s1 Q C8.E0) s1 := by
  have kin : X.K.In s1.heap := e0.mod.kin.keeps fun b o z => (e0.bs b o z).1
  refine run_ofS (N := Ng) (ps := ["call"]) (us := [.ref f]) (vs := [.ref f]) lk cd Sg hr e0 (hb s1 [.ref f] kin rfl) (.cons rfl .nil) rfl fun hr' => ?_
  obtain ⟨t', ht', hq'⟩ := hG f s1 H1 Q (LmAt X f L) (fun E H' Q' => t E σ H' Q') (fun W pn xe E p1 p2 tk hW => pe_acts (i := 0) I ck hP tk hW hr' hNg hva) hL hT
  exact ⟨t', ht'.nox, hq'⟩
/-- x(e), e one of the lambdas that R tells -/
def tAsk (X : Cx) (k : Nat) (TT : (XK → Hp → VK → Prop) → Hp → VK → Prop) (te : TE) : TE := fun σ H Q => te σ H fun v H1 => ∃ (f : Addr) (L : Lw) (t : XK → TE), [v].head? = some (.ref f) ∧ [v].length = 1 ∧ LmAt X f L H1 ∧ LmP X k L t ∧ TT (fun E H' Q' => t E σ H' Q') H1 Q
theorem pe_ask {TT : (XK → Hp → VK → Prop) → Hp → VK → Prop} {x : Str} {st : Stmt} {g : Addr} {cdg : Value} {Ng : List Str} {k : Nat} {e : Expr} {te : TE} {p pos : Pos} (D : AskD X.K X.mg x st g cdg) (hg : Gl X x) (Sg : FnScope Ng ["call"] (defScope st)) (hNg : Ng[0]? = some ("call" : Str)) (hva : Vis (defScope st) "call")
    (hG : GivesA X Ng x (defScope st) g cdg (defBody st) "call" TT) (hr : Room (k + 2) X.A) (he : PE X e te) (hdb : (x == ("__debug__" : Str)) = false := by decide) (hs : starEach [e] X.env = (false, eval e X.env) :: starEach [] X.env := by rfl) :
    PE X (.Call (.Name x p) [e] [] pos) (tAsk X k TT te) := by
  refine ⟨fun pins s σ H Q I h => ?_⟩
  obtain ⟨dV, kV, doc, pm, ct, oc, an, od, osl, lk, hb⟩ := D.lk
  refine wpAny_Call_Name_kw (ld_glob I hg D.m ?_ hdb)
  have h : tCons te tNil σ H (fun vs H1 => ∃ (f : Addr) (L : Lw) (t : XK → TE), vs.head? = some (.ref f) ∧ vs.length = 1 ∧ LmAt X f L H1 ∧ LmP X k L t ∧ TT (fun E H' Q' => t E σ H' Q') H1 Q) := h
  refine PySem.W.callWith_K (h₀ := X.base) I.ok.mod.kin D.kp (thn ((pa_cons he pa_nil hs).run pos pins s σ H _ I h) fun us s1 ⟨vs, H1, I1, r, q⟩ => ⟨I1.kIn, ?_⟩) hs rfl
  obtain ⟨f, L, t, ev, el, hL, hP, hT⟩ := q
  obtain ⟨v, rfl⟩ : ∃ v, vs = [v] := List.length_eq_one_iff.mp el
  obtain rfl : v = V.ref f := Option.some.inj ev
  obtain rfl := Vals.ref1 r
  refine wpAny_call (codeAny_mono (ask_code hNg hva hG hr I1 (.self I1) I1.env0 lk hb D.cd Sg hL hP hT) fun r s2 hq => ?_)
  cases r with
  | error e => exact (show False from hq).elim
  | ok fl =>
    cases fl with
    | ret u => exact I1.after hq
    | next => exact False.elim hq
    | brk => exact False.elim hq
    | cont => exact False.elim hq
end
end AsAct

set_option maxHeartbeats 4000000
set_option autoImplicit false
/-! objects of a class of the program: methods as defs, fields as data. -/
namespace AsObj
open PySem PySem.Spec PyProof.Rows L2 AsSort AsKit
open Evl (Ex Ev EvT EvA)
/-- a statement that is never come to -/
def sNo : TS := fun _ _ _ => False
theorem ps_no {X : Cx} {st : Stmt} : PS X st sNo := ⟨fun _ _ _ _ _ _ h => h.elim⟩
theorem pss_no {X : Cx} {ss : List Stmt} : PSs X ss sNo := ⟨fun _ _ _ _ _ _ h => h.elim⟩
theorem pe_no {X : Cx} {e : Expr} : PE X e (fun _ _ _ => False) := ⟨fun _ _ _ _ _ _ h => h.elim⟩
/-- the statements of a class -/
def clsB : Stmt → List Stmt
  | .ClassDef (body := b) .. => b
  | _ => []
/-- a method -/
def DfM (K : PySem.W.Frag) (C : Addr) (m qual : Str) (st : Stmt) : Prop := ∃ f fd, FunD K m qual (defArgs st) (defBody st) (defScope st) [] [] f fd ∧ Meth K C m f
/-- the method that makes an object ready -/
def DfI (K : PySem.W.Frag) (C : Addr) (qual : Str) (st : Stmt) : Prop := ∃ f fd, FunD K "__init__" qual (defArgs st) (defBody st) (defScope st) [] [] f fd ∧ Mk K C f
/-- its promise: it may raise -/
def Mlx (P : Program) (w : World) (K : PySem.W.Frag) (mg : Str → Option Value) (base : Heap) (k : Nat) (C : Addr) (m : Str) (ps : List Str) (sp : Sp) : Prop := ∃ f fd, Cls K C ∧ Meth K C m f ∧ FnOk P w K mg base (L2.CX P w) k f fd ps sp ∧ Binds K fd ps []
/-- it does not raise -/
def Ml (P : Program) (w : World) (K : PySem.W.Frag) (mg : Str → Option Value) (base : Heap) (k : Nat) (C : Addr) (m : Str) (ps : List Str) (sp : Sp) : Prop := ∃ f fd, Cls K C ∧ Meth K C m f ∧ FnOk P w K mg base C8.CX0 k f fd ps sp ∧ Binds K fd ps []
def Mkx (P : Program) (w : World) (K : PySem.W.Frag) (mg : Str → Option Value) (base : Heap) (k : Nat) (x : Str) (C : Addr) (ps : List Str) (sp : Sp) : Prop := ∃ f fd, Mk K C f ∧ FnOk P w K mg base (L2.CX P w) k f fd ps sp ∧ mg x = some (.ref C) ∧ Binds K fd ps []
section
variable {P : Program} {w : World} {K : PySem.W.Frag} {mg : Str → Option Value} {base : Heap} {C : Addr} {m qual x : Str} {st : Stmt} {N ps : List Str} {k : Nat} {sp : Sp}
theorem mlx_of (c : Cls K C) (D : DfM K C m qual st) (S : FnScope N ps (defScope st)) (len : ∀ vs H Q E, sp vs H Q E → vs.length = ps.length)
    (hb : ∀ (kV doc pm : Value) (an : Option Addr) (cdv ct : Value) (us : List Value), us.length = ps.length → bindArgs (PySem.W.fnOf m qual (defArgs st) (defBody st) (defScope st) .none kV doc pm an cdv ct) ⟨us, []⟩ = pure (ps.zip us))
    (hbody : ∀ (f : Addr) (cdv : Value) (A : Around) (outer : List Env) (s : Shared) (H : Hp) (vs : List V) (Q : VK) (E : XK), Room k (A.deeper (envOfC qual (defScope st) s.heap.objs.size f cdv)) → sp vs H Q E →
      ∃ t, PSs (cxOf (L2.CX P w) P w K mg base N qual (defScope st) f cdv A outer s H E) (defBody st) t ∧ t { nx := fun _ H' => Q .non H', rt := Q } (start N vs) H) : Mlx P w K mg base (k + 1) C m ps sp := by
  obtain ⟨f, fd, F, M⟩ := D
  exact ⟨f, fd, c, M, F.ok S len fun cdv A outer s H vs Q E hr h => hbody f cdv A outer s H vs Q E hr h, F.bindsN hb⟩
theorem ml_of (c : Cls K C) (D : DfM K C m qual st) (S : FnScope N ps (defScope st)) (len : ∀ vs H Q E, sp vs H Q E → vs.length = ps.length)
    (hb : ∀ (kV doc pm : Value) (an : Option Addr) (cdv ct : Value) (us : List Value), us.length = ps.length → bindArgs (PySem.W.fnOf m qual (defArgs st) (defBody st) (defScope st) .none kV doc pm an cdv ct) ⟨us, []⟩ = pure (ps.zip us))
    (hbody : ∀ (f : Addr) (cdv : Value) (A : Around) (outer : List Env) (s : Shared) (H : Hp) (vs : List V) (Q : VK) (E : XK), Room k (A.deeper (envOfC qual (defScope st) s.heap.objs.size f cdv)) → sp vs H Q E →
      ∃ t, PSs (cxOf C8.CX0 P w K mg base N qual (defScope st) f cdv A outer s H E).nox (defBody st) t ∧ t { nx := fun _ H' => Q .non H', rt := Q } (start N vs) H) : Ml P w K mg base (k + 1) C m ps sp := by
  obtain ⟨f, fd, F, M⟩ := D
  exact ⟨f, fd, c, M, F.ok S len fun cdv A outer s H vs Q E hr h => let ⟨t, z, q⟩ := hbody f cdv A outer s H vs Q E hr h; ⟨t, PSs.nox z, q⟩, F.bindsN hb⟩
theorem mkx_of (D : DfI K C qual st) (hm : mg x = some (.ref C)) (S : FnScope N ps (defScope st)) (len : ∀ vs H Q E, sp vs H Q E → vs.length = ps.length)
    (hb : ∀ (kV doc pm : Value) (an : Option Addr) (cdv ct : Value) (us : List Value), us.length = ps.length → bindArgs (PySem.W.fnOf "__init__" qual (defArgs st) (defBody st) (defScope st) .none kV doc pm an cdv ct) ⟨us, []⟩ = pure (ps.zip us))
    (hbody : ∀ (f : Addr) (cdv : Value) (A : Around) (outer : List Env) (s : Shared) (H : Hp) (vs : List V) (Q : VK) (E : XK), Room k (A.deeper (envOfC qual (defScope st) s.heap.objs.size f cdv)) → sp vs H Q E →
      ∃ t, PSs (cxOf (L2.CX P w) P w K mg base N qual (defScope st) f cdv A outer s H E) (defBody st) t ∧ t { nx := fun _ H' => Q .non H', rt := Q } (start N vs) H) : Mkx P w K mg base (k + 1) x C ps sp := by
  obtain ⟨f, fd, F, M⟩ := D
  exact ⟨f, fd, M, F.ok S len fun cdv A outer s H vs Q E hr h => hbody f cdv A outer s H vs Q E hr h, hm, F.bindsN hb⟩
end
section
variable {X : Cx} {k j : Nat} {C : Addr} {x m : Str} {ps : List Str} {sp : Sp} {p pos apos : Pos} {e o : Expr} {es : List Expr} {ta : TE} {t : TA} {E : XK} {pl : Sem Bool}
/-- calls of methods: one that may raise, one that does not; without arguments; an object made -/
theorem pe_mx (M : Mlx X.prog X.w X.K X.mg X.base k C m ps sp) (hr : Room j X.A) (hk : k ≤ j) (hx : Passes (L2.CX X.prog X.w) X E) (ho : PE X o ta) (ha : PA X (e :: es) t)
    (hst : starEach (e :: es) X.env = (false, eval e X.env) :: starEach es X.env := by rfl) (hpl : (backTo pos (starEach es X.env)).any (·.1) = false := by rfl)
    (ht : eval (.Call (.Attribute o m apos) (e :: es) [] pos) X.env = (do
      let ov ← eval o X.env
      standAt apos.atName
      let (f, first) ← holding [ov] (getMethod ov m pl)
      callWith pos f first (backTo pos (starEach (e :: es) X.env)) (backToKw pos (keywordEach [] X.env))) := by rfl) : PE X (.Call (.Attribute o m apos) (e :: es) [] pos) (tMeth C m sp [] E ta t) := by
  obtain ⟨f, fd, c, M, F, b⟩ := M
  exact pe_meth (pl := pl) ho c M F (hr.mono hk) b .nil hx ha hst hpl ht
theorem pe_mx0 (M : Mlx X.prog X.w X.K X.mg X.base k C m ps sp) (hr : Room j X.A) (hk : k ≤ j) (hx : Passes (L2.CX X.prog X.w) X E) (ho : PE X o ta)
    (ht : eval (.Call (.Attribute o m apos) [] [] pos) X.env = (do
      let ov ← eval o X.env
      standAt apos.atName
      let (f, first) ← holding [ov] (getMethod ov m pl)
      callWith pos f first (backTo pos (starEach [] X.env)) (backToKw pos (keywordEach [] X.env))) := by rfl) : PE X (.Call (.Attribute o m apos) [] [] pos) (tMeth C m sp [] E ta tNil) := by
  obtain ⟨f, fd, c, M, F, b⟩ := M
  exact pe_meth0 (pl := pl) ho c M F (hr.mono hk) b .nil hx ht
theorem pe_ml (M : Ml X.prog X.w X.K X.mg X.base k C m ps sp) (hr : Room j X.A) (hk : k ≤ j) (ho : PE X o ta) (ha : PA X (e :: es) t)
    (hst : starEach (e :: es) X.env = (false, eval e X.env) :: starEach es X.env := by rfl) (hpl : (backTo pos (starEach es X.env)).any (·.1) = false := by rfl)
    (ht : eval (.Call (.Attribute o m apos) (e :: es) [] pos) X.env = (do
      let ov ← eval o X.env
      standAt apos.atName
      let (f, first) ← holding [ov] (getMethod ov m pl)
      callWith pos f first (backTo pos (starEach (e :: es) X.env)) (backToKw pos (keywordEach [] X.env))) := by rfl) : PE X (.Call (.Attribute o m apos) (e :: es) [] pos) (tMeth C m sp [] C8.E0 ta t) := by
  obtain ⟨f, fd, c, M, F, b⟩ := M
  exact pe_meth (pl := pl) ho c M F (hr.mono hk) b .nil C8.pass0 ha hst hpl ht
theorem pe_ml0 (M : Ml X.prog X.w X.K X.mg X.base k C m ps sp) (hr : Room j X.A) (hk : k ≤ j) (ho : PE X o ta)
    (ht : eval (.Call (.Attribute o m apos) [] [] pos) X.env = (do
      let ov ← eval o X.env
      standAt apos.atName
      let (f, first) ← holding [ov] (getMethod ov m pl)
      callWith pos f first (backTo pos (starEach [] X.env)) (backToKw pos (keywordEach [] X.env))) := by rfl) : PE X (.Call (.Attribute o m apos) [] [] pos) (tMeth C m sp [] C8.E0 ta tNil) := by
  obtain ⟨f, fd, c, M, F, b⟩ := M
  exact pe_meth0 (pl := pl) ho c M F (hr.mono hk) b .nil C8.pass0 ht
theorem pe_mkx (M : Mkx X.prog X.w X.K X.mg X.base k x C ps sp) (hr : Room j X.A) (hk : k + 1 ≤ j) (hg : Gl X x) (hx : Passes (L2.CX X.prog X.w) X E) (ha : PA X (e :: es) t) (hdb : (x == ("__debug__" : Str)) = false := by decide)
    (he : starEach (e :: es) X.env = (false, eval e X.env) :: starEach es X.env := by rfl) (hpl : (backTo pos (starEach es X.env)).any (·.1) = false := by rfl) : PE X (.Call (.Name x p) (e :: es) [] pos) (tMake C sp [] E t) := by
  obtain ⟨f, fd, M, F, hm, b⟩ := M
  exact pe_make M F (hr.mono hk) hg hm b .nil hx ha hdb he hpl
end
theorem dpAll_take {K : PySem.W.Frag} {G : Hp} : ∀ {vs : List V} {ds : List PyData} (n : Nat), DpAll K G vs ds → DpAll K G (vs.take n) (ds.take n)
  | _, _, 0, _ => .nil
  | [], [], _ + 1, .nil => .nil
  | _ :: _, _ :: _, n + 1, .cons a b => .cons a (dpAll_take n b)
theorem putF_len {f : Str} {v : V} : ∀ {fs : List (Str × V)} {n : Nat}, fs.length ≤ n → (putF f v fs).length ≤ n + 1
  | [], n, _ => by show 1 ≤ n + 1; omega
  | (g, x) :: r, 0, h => by simp at h
  | (g, x) :: r, n + 1, h => by
    unfold putF
    split
    · simp only [List.length_cons] at h ⊢; omega
    · have := putF_len (f := f) (v := v) (fs := r) (n := n) (by simpa using h)
      simp only [List.length_cons]; omega
section
variable {K : PySem.W.Frag} {σ : L2.St} {H : Hp} {d : PyData}
/-- o.f, o in a slot -/
theorem d_fld {i : Nat} {a C dx : Addr} {fs : List (Str × V)} {f : Str} {v : V} (hs : σ[i]? = some (some (.ref a))) (ha : H a = some (.ins C dx fs)) (c : Cls K C) (n : NoAttr K C f) (l : fs.lookup f = some v) (hv : Dp K H v d) : EvD K (tFld K (tVar i) f) σ H d := fun H1 x Q q =>
  ⟨_, hs, a, C, dx, fs, v, rfl, x _ _ ha, c, n, l, q v H1 (Ex.refl H1) (dp_ex x hv)⟩
end
end AsObj

set_option maxHeartbeats 4000000
set_option autoImplicit false
/-! an own exception over ValueError whose __init__ says super().__init__(a text), then stores one field. -/
namespace AsToA
open PySem PySem.Spec PyProof.Rows L2 NdefX
/-- what the written part says of the __init__ at f, of its class at C, its cell cc, its code object cda -/
structure SupF (P : Program) (K : PySem.W.Frag) (mg : Str → Option Value) (C f cc cda : Addr) (qual : Str) : Prop where
  cd : PySem.W.codeIn K (.ref cda) qual = true
  code : ∃ (ccl : Value) (cdd : Option Addr) (vs : Array Value) (ccs : Array (Option Value)) (file : Str) (tf : Tok), K.lookup cda = some ⟨ccl, cdd, .fields vs, ccs⟩ ∧ vs[2]? = some (.str file tf) ∧ ((P.main.file : Str) == file) = true
  cell : ∃ (cl : Value) (cld : Option Addr) (csl : Array (Option Value)), K.lookup cc = some ⟨cl, cld, .cell (some (.ref C)), csl⟩
  hD : ∃ cd, PySem.W.clsIn K C = some cd
  mro : PySem.W.mroIn K C (.ref C) = some true
  top : (P.main.scope.names.lookup ("super" : Str)).isSome = false
  al : PySem.W.ks_superIn K C C "__init__" = some (some (.builtin "ValueError.__init__"))
  opq : PySem.W.nsIn K cStatics "thirdparty.any" = some none
  ve : PySem.W.subIn K (.ref C) (.type "ValueError") = some true
  sup : mg "super" = none
  ox : OexC K C
abbrev bodyT (jl : List Expr) (pj : Pos) (p0 p1 p2 p3 p4 p5 p6 p7 p8 : Pos) : List Stmt :=
  [.Expr (.Call (.Attribute (.Call (.Name "super" p0) [] [] p1) "__init__" p2) [.JoinedStr jl pj] [] p3) p4, .Assign [.Attribute (.Name "self" p5) "at" p6] (.Name "at" p7) p8]
/-- what it promises -/
def spToA (K : PySem.W.Frag) (C : Addr) : Sp := fun vs H Q _ => ∃ (e : Addr) (m : Int), vs = [.ref e, .int m] ∧ m.natAbs.log2 < 100 ∧ H e = some (exo e C none) ∧ ∀ dx, H dx = none → dx ≠ e → Q .non (upd (upd H dx (exd dx [("at", .int m)])) e (exo e C (some dx)))
section
variable {X : Cx} {pins : List (Addr × Obj)} {σ : L2.St} {H : Hp} {s : Shared}
theorem pin_more {u : Addr} {o : Obj} {h' : Heap} {t' : Nat} (I : Inv X pins σ H s) (hu : s.heap.objs.size ≤ u) (k : ∀ b o, s.heap.get? b = some o → h'.get? b = some o) (e : h'.get? u = some o) (nc : ∀ v, o.data ≠ .cell v) : Inv X ((u, o) :: pins) σ H { s with heap := h', toks := t' } := by
  have J : Inv X pins σ H { s with heap := h', toks := t' } := I.kept k
  refine { J with pin := fun p hp => ?_ }
  rcases List.mem_append.mp hp with z | z
  · exact J.pin p (List.mem_append_left _ z)
  · rcases List.mem_cons.mp z with rfl | z
    · refine ⟨e, I.hok.fresh hu, fun q => ?_, I.nofs hu, nc⟩
      have h1 := I.lt
      have q' : u = X.env.locals := q
      rw [← q'] at h1
      exact absurd (Nat.lt_of_lt_of_le h1 hu) (Nat.lt_irrefl _)
    · exact J.pin p (List.mem_append_right _ z)
theorem pin_less {q : Addr × Obj} (I : Inv X (q :: pins) σ H s) : Inv X pins σ H s := { I with pin := fun p hp => I.pin p ((List.mem_append.mp hp).elim (fun z => List.mem_append_left _ z) fun z => List.mem_append_right _ (List.mem_cons_of_mem _ z)) }
/-- the bound __init__ called -/
theorem wrap_call {A : Around} {E : Value → Shared → Prop} {u e C : Addr} {us : List Value} {Q : Value → Shared → Prop} (T : OexC X.K C) (I : Inv X pins σ H s) (he : H e = some (exo e C none)) (hu : s.heap.get? u = some (PySem.W.kxs_mw "ValueError.__init__" e)) (hl : us.length ≤ sizeLine) (h : ∀ s', Inv X pins σ H s' → Q .none s') :
    wpAny (model X.prog X.w) A (call (.ref u) us) Q E s := by
  obtain ⟨nm, q, N, bs, bm, sn, sub, ab, col, dd, k0, k1, k2, k3, k5, hC, hbm⟩ := T.cls
  obtain ⟨t1, ho⟩ := exo_at I.hok he
  obtain ⟨hp, g, d, t, os⟩ := s
  have eu : upd H e (exo e C none) = H := funext fun b => by
    by_cases hb : b = e
    · rw [hb, upd_same, he]
    · exact upd_ne hb
  refine wpAny_call (codeAny_of_tree ?_)
  show wpAny _ A.in1 (callAny (.ref u) ⟨us, []⟩) _ _ _
  simp only [callAny]
  refine wpAny_bind (wpAny_load hu ?_)
  have y : (Value.type "method-wrapper" == Value.type "method" || Value.type "method-wrapper" == Value.type "builtin_function_or_method"
    || Value.type "method-wrapper" == Value.type "method-wrapper") = true := by decide
  simp only [PySem.W.kxs_mw, y, if_true]
  refine PySem.W.KFB.if_so (by decide) ?_
  refine wpAny_bind (PySem.W.check_bound_init F.excBase_ValueError.toExcCallFacts (I.kIn _ _ hC) ho rfl ?_)
  refine wpAny_bind (wpAny_pure (wpAny_pure ?_))
  refine ⟨plainId_quiet F.excBase_ValueError.init.plain _, codeAny_builtin F.excBase_ValueError.initEntry ?_⟩
  refine PySem.W.exc_init_tree (cls := .ref C) (t0 := t1) (dv := none) (c2 := .none) (c3 := .none) (b4 := .bool false) ho hl fun h' k hx _ => ?_
  have J := I.write (t' := t) (x := e) (e := e) (o := exo e C none) (by rw [he]; exact True.intro) (.inl rfl) k ⟨_, hx⟩ (exo_ok hx)
  rw [eu] at J
  exact h _ J
end
theorem one_look {k y : Str} {c d : Addr} (h : [(k, c)].lookup y = some d) : y = k ∧ d = c := by
  rw [List.lookup_cons] at h
  cases q : (y == k) with
  | true =>
    rw [q] at h
    exact ⟨beq_iff_eq.mp q, (Option.some.inj h).symm⟩
  | false =>
    rw [q] at h
    cases h
section
variable {P : Program} {w : World} {K : PySem.W.Frag} {mg : Str → Option Value} {base : Heap}
abbrev nT : List Str := ["self", "at", "__class__"]
abbrev nfT (name qual : Str) (params : Arguments) (body : List Stmt) (scope : Scope) (cc cda : Addr) : NF := ⟨name, qual, params, body, scope, [("__class__", cc)], cda⟩
theorem fnok_too {CX : CXT} {name qual : Str} {params : Arguments} {scope : Scope} {jl : List Expr} {pj : Pos} {p0 p1 p2 p3 p4 p5 p6 p7 p8 : Pos} {dV kV doc pm ct oc : Value} {an od : Option Addr} {osl : Array (Option Value)} {C f cc cda : Addr} {tj : Int → TE}
    (F : SupF P K mg C f cc cda qual) (lk : K.lookup f = some ⟨oc, od, .func (PySem.W.ksFn name qual params (bodyT jl pj p0 p1 p2 p3 p4 p5 p6 p7 p8) scope dV kV doc pm an (.ref cda) ct cc), osl⟩)
    (S : NScope nT ["self", "at"] ["__class__"] scope) (hsu : scope.names.lookup ("super" : Str) = some .globalImplicit) (hpa : (params.posonlyargs ++ params.args).head?.map (·.arg) = some ("self" : Str)) (hno : PySem.W.findIn K (.ref C) "at" = some none)
    (hjs : ∀ (A : Around) (outer : List Env) (s : Shared) (H : Hp) (E : XK) (m : Int), m.natAbs.log2 < 100 → ∃ t, PE (ncx CX P w K mg base nT (nfT name qual params (bodyT jl pj p0 p1 p2 p3 p4 p5 p6 p7 p8) scope cc cda) f A outer s H E) (.JoinedStr jl pj) t ∧
      ∀ (e : Addr) (G : Hp) (Q : VK), (∀ z : Str, Q (.str z) G) → t (startF nT [.ref e, .int m] [none]) G Q)
    {pl : Env → Sem Bool} (hev : ∀ env : Env, eval (.Call (.Attribute (.Call (.Name "super" p0) [] [] p1) "__init__" p2) [.JoinedStr jl pj] [] p3) env = (do
      let ov ← attributeBase (.Call (.Name "super" p0) [] [] p1) "__init__" env (eval (.Call (.Name "super" p0) [] [] p1) env)
      standAt p2.atName
      let (f, first) ← holding [ov] (getMethod ov "__init__" (pl env))
      callWith p3 f first (backTo p3 (starEach [.JoinedStr jl pj] env)) [])) :
    FnOk P w K mg base CX 1 f (PySem.W.ksFn name qual params (bodyT jl pj p0 p1 p2 p3 p4 p5 p6 p7 p8) scope dV kV doc pm an (.ref cda) ct cc) ["self", "at"] (spToA K C) := by
  refine ⟨fun vs H Q E ⟨e, m, h, _⟩ => by rw [h]; rfl, fun A outer s H args us vs Q E hr e0 hb r hsp => ?_⟩
  obtain ⟨e, m, rfl, hm, he, q⟩ := hsp
  obtain ⟨v0, v1, rfl, r0, r1⟩ : ∃ v0 v1, us = [v0, v1] ∧ RelV (.ref e) v0 ∧ RelV (.int m) v1 := by
    cases r with
    | cons a r =>
      cases r with
      | cons b r =>
        cases r
        exact ⟨_, _, rfl, a, b⟩
  obtain rfl : v0 = Value.ref e := r0
  have KX : K.In s.heap := e0.mod.kin.keeps fun b o z => (e0.bs b o z).1
  have lim : s.heap.NoLimit := e0.mod.nolimit.keeps fun b o z => (e0.bs b o z).1
  obtain ⟨nf, hnf⟩ : ∃ nf, nf = nfT name qual params (bodyT jl pj p0 p1 p2 p3 p4 p5 p6 p7 p8) scope cc cda := ⟨_, rfl⟩
  obtain ⟨ccl, ccd, ccs, hcell⟩ := F.cell
  refine ks_codeAny_call_defAt (body := bodyT jl pj p0 p1 p2 p3 p4 p5 p6 p7 p8) (binds := (["self", "at"] : List Str).zip [.ref e, v1]) hr.depth (KX _ _ lk) rfl lim (PySem.W.codeRec_of KX F.cd) rfl hb S.nocell (fun ⟨n, v⟩ hy => S.par n (List.of_mem_zip hy).1) (fun h1 hns kp => ?_) S.co S.gen S.kind
  have cb : ∃ o, base.get? cc = some o ∧ o.data = .cell (some (.ref C)) := ⟨_, e0.mod.kin _ _ hcell, rfl⟩
  obtain ⟨oc', hoc, hdc⟩ := cb
  have Cel : CellsAt [("__class__", cc)] ["__class__"] [none] s.heap H := by
    refine ⟨rfl, fun y c z => ?_, fun x y c a b => ?_, fun i y hi => ?_⟩
    · obtain ⟨_, rfl⟩ := one_look z
      exact ⟨(e0.bs _ _ hoc).2, _, oc', (e0.bs _ _ hoc).1, hdc⟩
    · rw [(one_look a).1, (one_look b).1]
    · cases i with
      | zero =>
        cases hi
        exact ⟨cc, by simp [List.lookup], fun v hv => by cases hv⟩
      | succ i => cases hi
  have I : Inv (ncx CX P w K mg base nT nf f A outer s H E) [] (startF nT [.ref e, .int m] [none]) H { s with heap := h1, toks := s.toks + ((["self", "at"] : List Str).zip [Value.ref e, v1]).length } := by
    rw [hnf]
    exact inv_startN (ps := ["self", "at"]) (fr := ["__class__"]) S hr.hd e0 rfl (.cons rfl (.cons r1 .nil)) Cel hns kp
  obtain ⟨tj', hpj, qj⟩ := hjs A outer s H E m hm
  rw [← hnf] at hpj
  have KX1 := I.kIn
  obtain ⟨ccl2, cdd, vs, ccs2, file, tf, hcode, hvs, hfile⟩ := F.code
  obtain ⟨ar, har, hara⟩ : ∃ ar, (params.posonlyargs ++ params.args).head? = some ar ∧ ar.arg = ("self" : Str) := by
    cases z : (params.posonlyargs ++ params.args).head? with
    | none => rw [z] at hpa; cases hpa
    | some ar => rw [z] at hpa; exact ⟨ar, rfl, Option.some.inj hpa⟩
  obtain ⟨cdD, hD⟩ := F.hD
  obtain ⟨oD, hD1, hD2⟩ : ∃ oD, h1.get? C = some oD ∧ oD.data = .cls cdD := by
    unfold PySem.W.clsIn at hD
    split at hD
    · rename_i c d cd' sl ho
      cases hD
      exact ⟨_, KX1 _ _ ho, rfl⟩
    · cases hD
  obtain ⟨t1, hoe⟩ := exo_at I.hok he
  have InI : PySem.W.InstAt h1 e { cls := .ref C, dict := none, data := .fields #[.ref t1, .none, .none, .none, .bool false, .none] } C none := ⟨hoe, rfl, rfl, trivial⟩
  have hkc : scope.names.lookup ("__class__" : Str) = some .free := S.frk _ (List.mem_cons_self ..)
  have hks : scope.names.lookup ("self" : Str) = some .local := S.par _ (List.mem_cons_self ..)
  have hkm : scope.names.lookup ("at" : Str) = some .local := S.par _ (List.mem_cons_of_mem _ (List.mem_cons_self ..))
  have hint : interactive (callEnv (PySem.W.ksFn name qual params (bodyT jl pj p0 p1 p2 p3 p4 p5 p6 p7 p8) scope dV kV doc pm an (.ref cda) ct cc) s.heap.objs.size f) = false := by
    have z := I.quiet
    rw [hnf] at z
    exact z
  have hsw : swapsWith (.Call (.Attribute (.Call (.Name "super" p0) [] [] p1) "__init__" p2) [.JoinedStr jl pj] [] p3) none p4.line (callEnv (PySem.W.ksFn name qual params (bodyT jl pj p0 p1 p2 p3 p4 p5 p6 p7 p8) scope dV kV doc pm an (.ref cda) ct cc) s.heap.objs.size f) = pure false := rfl
  refine ks_wpAt_execs_cons ?_
  refine ks_wpAt_Expr_any ?_ hint hsw
  refine ks_wpAt_MethodCall (pl := pl _) ?_ (hev _)
  refine ks_wpAt_super_base hsu hkc (by decide) rfl (KX1 _ _ lk) rfl har rfl (KX1 _ _ hcode) rfl hvs hfile F.top ?_
  obtain ⟨mb, b1, b2⟩ := I.mod.blt
  refine PySem.W.ks_loadName_global S.kind hsu (Calls.loadGlobal_builtin (e0.mod.glob.keeps I.bk) F.sup (b1.keeps I.bk) ((b2 "super" (by decide)).trans rfl) ⟨rfl, ?_⟩)
  refine wpAny_loadName_free S.kind hkc rfl ⟨oc', I.bk _ _ hoc, hdc⟩ ?_
  rw [hara]
  refine wpAny_loadName_local S.kind hks hns rfl ?_
  refine ks_wpAny_isType_cls hD1 hD2 ⟨rfl, ?_⟩
  refine ks_wpAny_call_super hD1 hD2 hoe rfl (fun c z => nomatch z) (PySem.W.looks_mroIn KX1 F.mro) (fun h2 e2 k2 => ?_)
  have I2 : Inv (ncx CX P w K mg base nT nf f A outer s H E) [] (startF nT [.ref e, .int m] [none]) H { s with heap := h2, toks := s.toks + ((["self", "at"] : List Str).zip [Value.ref e, v1]).length } := I.kept k2
  have hal := F.al
  unfold PySem.W.ks_superIn at hal
  rw [hD] at hal
  have InI2 : PySem.W.InstAt h2 e { cls := .ref C, dict := none, data := .fields #[.ref t1, .none, .none, .none, .bool false, .none] } C none := ⟨k2 _ _ hoe, rfl, rfl, trivial⟩
  have hIs : PySem.W.Looks (model P w) h2 (isInstance (.ref e) (.type "ValueError")) true := InI2.type.andThen (PySem.W.looks_subIn I2.kIn F.ve)
  have hne : e ≠ C := fun z => by
    rw [z, hD1] at hoe
    cases hoe
    cases hD2
  refine PySem.W.kxs_getMethod PySem.W.kxs_ValueError e2 (PySem.W.looks_opaque I2.kIn F.opq) (l₀ := cdD.mro) (fun A Q E s k q => wpAny_bind ((PySem.W.looks_clsIn I2.kIn hD) A _ E s k (wpAny_pure q))) rfl I2.kIn hal hIs hne (by decide) ?_
  have I3 := pin_more (t' := s.toks + ((["self", "at"] : List Str).zip [Value.ref e, v1]).length + 1) (u := h2.objs.size) (o := PySem.W.kxs_mw "ValueError.__init__" e) (h' := h2.push (PySem.W.kxs_mw "ValueError.__init__" e)) I2 (Nat.le_refl _) (fun b o z => Heap.get?_push_of_some _ z) (Heap.get?_push_size _ rfl) fun v z => nomatch z
  show wpAny _ _ (callWith p3 (.ref h2.objs.size) [] (backTo p3 (starEach [.JoinedStr jl pj] _)) []) _ _ _
  refine PySem.W.kxs_callWith (i := "ValueError.__init__") (x := e) (by rfl) (Calls.evalArgs_plain ?_)
  have pa := (pa_cons hpj pa_nil).run p3 _ _ _ _ (fun us G => ∃ z : Str, us = [.str z] ∧ G = H) I3 (qj e H _ fun z => ⟨z, rfl, rfl⟩)
  subst hnf
  refine thn pa fun us s1 ⟨vs, H1, I4, r4, z, ev, eH⟩ => ?_
  subst ev
  rw [eH] at I4
  have hu4 := (I4.pin _ (List.mem_append_right _ (List.mem_cons_self ..))).1
  refine ⟨hu4, ?_⟩
  refine wrap_call (us := us) F.ox I4 he hu4 (by rw [← r4.length]; simp [sizeLine_eq]) fun s5 I5 => ?_
  have I6 := pin_less I5
  refine wpAt_of_wpAny ?_
  have ps := pss_one (ps_ost (X := ncx CX P w K mg base nT (nfT name qual params (bodyT jl pj p0 p1 p2 p3 p4 p5 p6 p7 p8) scope cc cda) f A outer s H E) (o := .Name "self" p5) (f := "at") (p' := p6) (pos := p8) (pe_var (x := "self") (i := 0) rfl (.inl hks)) (pe_var (x := "at") (pos := p7) (i := 1) rfl (.inl hkm)) rfl)
  refine wpAny_mono (ps.run _ _ _ _ { nx := fun _ H' => Q .non H', rt := Q } I6 ?_) (fun fl s7 hs => ?_) fun e' s7 hs => hs
  · exact ⟨_, rfl, _, rfl, e, C, rfl, F.ox, hno, .inl ⟨he, fun dx n ne => q dx n ne⟩⟩
  · cases fl with
    | next =>
      obtain ⟨σ', H', J, q'⟩ := hs
      exact ⟨.non, H', J.os, J.bare, J.base, J.hok, rfl, q'⟩
    | ret u =>
      obtain ⟨v, σ', H', J, rv, q'⟩ := hs
      exact ⟨v, H', J.os, J.bare, J.base, J.hok, rv, q'⟩
    | brk =>
      obtain ⟨_, _, _, q'⟩ := hs
      exact q'.elim
    | cont =>
      obtain ⟨_, _, _, q'⟩ := hs
      exact q'.elim
end
end AsToA

set_option maxHeartbeats 4000000
set_option autoImplicit false
/-! such an exception raised. -/
namespace AsToA
open PySem PySem.Spec PyProof.Rows L2
open Evl (Ex)
structure Et (P : Program) (w : World) (K : PySem.W.Frag) (mg : Str → Option Value) (base : Heap) (x : Str) (C : Addr) : Prop where
  g : mg x = some (.ref C)
  ox : OexC K C
  fn : ∃ fI fd, PySem.W.findIn K (.ref C) "__init__" = some (some (.ref fI)) ∧ PySem.W.typeIn K (.ref fI) = some (.type "function") ∧ FnOk P w K mg base C8.CX0 1 fI fd ["self", "at"] (spToA K C) ∧ Binds K fd ["self", "at"] []
theorem heap_back {H : Hp} {a C d : Addr} {fs : List (Str × V)} (n : H a = none) (ne : d ≠ a) : upd (L2.del (upd (upd (upd H a (exo a C none)) d (exd d fs)) a (exo a C (some d))) a) d (.xd fs) = upd H d (.xd fs) := funext fun b => by
  by_cases h1 : b = d
  · rw [h1, upd_same, upd_same]
  · rw [upd_ne h1, upd_ne h1]
    by_cases h2 : b = a
    · rw [h2, del_same, n]
    · rw [del_ne h2, upd_ne h2, upd_ne h1, upd_ne h2]
/-- what is asked where it is made with the value v -/
def InT (K : PySem.W.Frag) (C : Addr) (R : Addr → Hp → Prop) (v : V) (H1 : Hp) : Prop := [v].length ≤ 1000 ∧ ∀ a, H1 a = none → spToA K C (.ref a :: ([v] ++ [])) (upd H1 a (exo a C none))
  (fun u H2 => u = .non ∧ ∃ (d : Addr) (fs : List (Str × V)), H2 a = some (exo a C (some d)) ∧ H2 d = some (exd d fs) ∧ H1 d = none ∧ R d (upd (L2.del H2 a) d (.xd fs))) (fun _ _ _ => False)
theorem inT_of {K : PySem.W.Frag} {C : Addr} {R : Addr → Hp → Prop} {m : Int} {H1 : Hp} (hm : m.natAbs.log2 < 100) (q : ∀ d, H1 d = none → R d (upd H1 d (.xd [("at", .int m)]))) : InT K C R (.int m) H1 := by
  refine ⟨by simp, fun a na => ⟨a, m, rfl, hm, upd_same, fun d nd ne => ⟨rfl, d, _, upd_same, (upd_ne ne).trans upd_same, (upd_ne ne).symm.trans nd, ?_⟩⟩⟩
  rw [heap_back na ne]
  exact q d ((upd_ne ne).symm.trans nd)
def tRaiseA (K : PySem.W.Frag) (C : Addr) (W : WX) (te : TE) : TS := fun _ σ H => te σ H fun v H1 => InT K C (fun d H' => W (.ref C) (some d) σ H') v H1
theorem ps_raiseA {X : Cx} {x : Str} {C : Addr} {W : WX} {e : Expr} {te : TE} {p pos pos2 : Pos} (c : Et X.prog X.w X.K X.mg X.base x C) (hr : Room 2 X.A) (hc : X.calm = true) (tk : Takes X W) (hg : Gl X x) (he : PE X e te)
    (hdb : (x == ("__debug__" : Str)) = false := by decide) (hs : starEach [e] X.env = (false, eval e X.env) :: starEach [] X.env := by rfl) : PS X (.Raise (some (.Call (.Name x p) [e] [] pos)) none pos2) (tRaiseA X.K C W te) := by
  obtain ⟨fI, fd, h1, h2, F1, hb⟩ := c.fn
  have mk : PMk X (.Call (.Name x p) [e] [] pos) (tMkO C (spToA X.K C) [] (tCons te tNil)) := pmk_oex c.ox h1 h2 F1 hr hb .nil (fun _ _ _ _ _ _ _ z => z.elim) hg c.g (pa_cons he pa_nil hs) hdb hs rfl
  have r := ps_raise (pos := pos2) hc tk mk
  exact ⟨fun pins s σ H D I h => r.run pins s σ H D I h⟩
end AsToA

set_option maxHeartbeats 4000000
set_option autoImplicit false
/-! *xs, y = a list. -/
namespace AsStar
open PySem PySem.Spec PyProof.Rows L2
section
variable {X : Cx} {pos : Pos}
/-- the first target takes all but the last ones -/
def gStar (K : PySem.W.Frag) (n : Nat) (t : TGs) : TG := fun v σ H Q => ∃ a xs, v = .ref a ∧ SqL K H a xs ∧ n ≤ xs.length + 1 ∧ ∀ D, H D = none → t (.ref D :: xs.drop (xs.length + 1 - n)) σ (upd H D (.lst (xs.take (xs.length + 1 - n)))) Q
theorem pgs_starred {e : Expr} {es : List Expr} {t : TG} {u : TGs} {p : Pos} (h1 : PG X e t) (h2 : PGs X es u) : PGs X (.Starred e p :: es) (gCons t u) := by
  refine ⟨fun pins s σ H vs us Q I r h => ?_⟩
  obtain ⟨v, vr, rfl, h⟩ := h
  cases r with
  | cons r rr =>
    show wpAny _ _ (assignInOrder (assign e X.env :: (assignEach es X.env).map (·.2)) _) _ _ _
    exact assignInOrder_cons (thn (h1.run pins s σ H _ _ _ I r h) fun _ s1 ⟨σ1, H1, I1, q⟩ => h2.run pins s1 σ1 H1 _ _ _ I1 rr q)
theorem pg_star {es : List Expr} {k : Nat} {t : TGs} {n : Nat} (hc : X.calm = true) (h : PGs X es t) (h1 : 0 < n)
    (hn : (assignEach es X.env).length = n := by rfl) (hst : (assignEach es X.env).findIdx? (·.1) = some 0 := by rfl) : PG X (.Tuple es k pos) (gStar X.K n t) := by
  refine ⟨fun pins s σ H v u Q I r hw => ?_⟩
  obtain ⟨a, xs, rfl, hq, hl, q⟩ := hw
  cases r
  obtain ⟨its, rv, pl, hz⟩ := I.list hq
  have il := pl.isList
  have ln : its.length = xs.length := rv.length.symm
  have az : its.toArray.size = xs.length := by rw [List.size_toArray, ln]
  have hlt : a ≠ s.heap.objs.size := by
    obtain ⟨o, ho, _⟩ := il
    exact Nat.ne_of_lt (Heap.lt_size ho)
  have il2 := il
  obtain ⟨ol, hol, _⟩ := il2
  rw [PyProof.Rows.assign_Tuple]
  refine wpAny_bind (wpAny_standAt ?_)
  unfold unpack
  rw [hst, show (assignEach es X.env).length = n from hn]
  refine wpAny_bind (wpAny_holding ?_)
  unfold unpackItems
  refine wpAny_bind ?_
  unfold notIterableAtAll
  refine wpAny_bind (wpAny_specialOf il.typeIs slot_list_iter.lookup ?_)
  refine wpAny_pure ?_
  simp only [Bool.false_eq_true, if_false]
  refine wpAny_bind (wpAny_holding (wpAny_pyIter_list il ?_))
  refine wpAny_bind (wpAny_holding (wpAny_pure ?_))
  rw [if_neg (by simp)]
  have hh : X.A.in1.handled = none := I.ok.hd hc
  refine wpAny_bind (wpAny_holding (PySem.W.kun_collect (items := its.toArray) (T := "list_iterator") (.inr (.inr (.inl rfl))) (Walks.list (A := X.A.in1) hh s.heap.objs.size a hlt its.toArray) (fun j u st => st.1.typeIs) (k := 0) (Nat.zero_le _) ⟨⟨_, Heap.get?_push_size _ rfl, rfl, rfl⟩, il.push _⟩ (by show s.heap.objs.size < (s.heap.push _).objs.size; rw [Heap.size_push]; exact Nat.lt_succ_self _) (by show a < (s.heap.push _).objs.size; rw [Heap.size_push]; exact Nat.lt_succ_of_lt (Heap.lt_size hol)) (fun h' tk hk => ?_) (by rw [az]; exact hz)))
  rw [List.drop_zero]
  have el : its.toArray.toList = its := by simp
  rw [el]
  have hm : its.length - (n - 1 - 0) = xs.length + 1 - n := by omega
  show wpAny _ _ (if its.length < n - 1 - 0 then _ else _) _ _ _
  rw [if_neg (by omega)]
  show wpAny _ _ (newList (its.take (its.length - (n - 1 - 0))) >>= fun d => pure ([] ++ [d] ++ its.drop (its.length - (n - 1 - 0)))) _ _ _
  rw [hm]
  refine wpAny_bind (wpAny_newList ?_ (by rw [List.length_take]; omega))
  refine wpAny_pure ?_
  have ex : ∀ b o, s.heap.get? b = some o → h'.get? b = some o := fun b o e => hk b o (Nat.ne_of_lt (Heap.lt_size e)) (Heap.get?_push_of_some _ e)
  have I1 : Inv X pins σ H { s with heap := h', toks := tk } := I.kept ex
  have nD : H h'.objs.size = none := I1.hok.fresh (Nat.le_refl _)
  have I2 : Inv X pins σ (upd H h'.objs.size (.lst (xs.take (xs.length + 1 - n)))) { s with heap := h'.push { cls := .type "list", data := .seq (its.take (xs.length + 1 - n)).toArray }, toks := tk } := by
    refine I1.laid (t' := tk) (fun b o e => Heap.get?_push_of_some _ e) (Nat.le_refl _) ⟨by rw [List.length_take]; omega, its.take (xs.length + 1 - n), 0, rv.take _, ?_⟩
    exact Heap.get?_push_size _ rfl
  exact h.run pins _ σ _ _ (.ref h'.objs.size :: its.drop (xs.length + 1 - n)) _ I2 (Paired.cons (show RelV (.ref h'.objs.size) (.ref h'.objs.size) from rfl) (rv.drop _)) (q _ nD)
end
end AsStar

set_option maxHeartbeats 4000000
set_option autoImplicit false
/-! the desk: what it is made of, its steps. -/
namespace K27
open PySem PySem.Spec PyProof.Rows L2 AsSort AsKit AsToo AsObj
open Evl (Ex Ev EvT EvA)
abbrev sDesk : Stmt := top 48
def dm (i : Nat) : Stmt := (clsB sDesk).getD i (.Pass ⟨0, 0, 0, 0⟩)
/-- a desk: its letters, its first text, its text now, its steps (deeds, and the text ahead of them) -/
structure Dk where
  y : Str
  first : Str
  now : Str
  steps : List (List (Nat × (Str × Str)) × Str)
def rowT (row : List (Nat × (Str × Str))) : PyData := .tuple (row.map fun d => dD d.1 d.2)
def stepD (s : List (Nat × (Str × Str)) × Str) : PyData := .tuple [rowT s.1, .str s.2]
def Dk.add (d : Dk) (row : List (Nat × (Str × Str))) (b : Str) : Dk := if row = [] then d else { d with now := b, steps := d.steps ++ [(row, d.now)] }
def Dk.back (d : Dk) : Dk := match d.steps.getLast? with
  | some s => { d with now := s.2, steps := d.steps.dropLast }
  | none => d
def Dk.row (d : Dk) : List (Nat × (Str × Str)) := d.steps.flatMap (·.1)
def dkF (d : Dk) (ps : Addr) : List (Str × V) := [("letters", .str d.y), ("first", .str d.first), ("now", .str d.now), ("steps", .ref ps)]
/-- the desk d stands at a, its list of steps at ps -/
def DkAt (K : PySem.W.Frag) (C : Addr) (H : Hp) (a ps : Addr) (d : Dk) : Prop := ∃ dx vs, H a = some (.ins C dx (dkF d ps)) ∧ H ps = some (.lst vs) ∧ DpAll K H vs (d.steps.map stepD)
/-- all but the desk is as it was -/
def Bd (a ps : Addr) (H H' : Hp) : Prop := ∀ x o, x ≠ a → x ≠ ps → H x = some o → H' x = some o
/-- the class's facts -/
structure DkC (K : PySem.W.Frag) (C : Addr) : Prop where
  cl : Cls K C
  nl : NoAttr K C "letters"
  nf : NoAttr K C "first"
  nn : NoAttr K C "now"
  ns : NoAttr K C "steps"
theorem imm_step (s : List (Nat × (Str × Str)) × Str) : imm (stepD s) = true := by
  have h : immAll (s.1.map fun d => dD d.1 d.2) = true := immAll_of fun z hz => by
    obtain ⟨d, _, rfl⟩ := List.mem_map.mp hz
    rfl
  show (imm (rowT s.1) && (imm (.str s.2) && true)) = true
  rw [show imm (rowT s.1) = immAll (s.1.map fun d => dD d.1 d.2) by simp [rowT, imm], h]
  rfl
theorem imm_steps (ss : List (List (Nat × (Str × Str)) × Str)) : immAll (ss.map stepD) = true := immAll_of fun z hz => by
  obtain ⟨s, _, rfl⟩ := List.mem_map.mp hz
  exact imm_step s
section
variable {K : PySem.W.Frag} {C : Addr} {H H' : Hp} {a ps : Addr} {d : Dk}
theorem Bd.refl (a ps : Addr) (H : Hp) : Bd a ps H H := fun _ _ _ _ h => h
theorem Bd.trans {H1 H2 : Hp} (x : Bd a ps H H1) (y : Bd a ps H1 H2) : Bd a ps H H2 := fun b o n1 n2 h => y b o n1 n2 (x b o n1 n2 h)
theorem bd_ex (e : Ex H H') : Bd a ps H H' := fun b o _ _ h => e b o h
theorem DkAt.ex (h : DkAt K C H a ps d) (e : Ex H H') : DkAt K C H' a ps d := let ⟨dx, vs, h1, h2, h3⟩ := h; ⟨dx, vs, e _ _ h1, e _ _ h2, dpAll_ex e h3⟩
theorem tu_bd (h : DkAt K C H a ps d) (b : Bd a ps H H') : Tu K H H' := tu_rd fun x xs q => by
  obtain ⟨dx, vs, h1, h2, h3⟩ := h
  have n : ∀ u, H x = some u → (∀ zs, u ≠ .lst zs) → (∀ C' dx' fs, u ≠ .ins C' dx' fs) → x ≠ a ∧ x ≠ ps := fun u e n1 n2 => ⟨fun w => by rw [w, h1] at e; exact n2 _ _ _ (Option.some.inj e).symm, fun w => by rw [w, h2] at e; exact n1 _ (Option.some.inj e).symm⟩
  rcases q with q | ⟨o, q⟩
  · have z := n _ q (fun _ e => nomatch e) (fun _ _ _ e => nomatch e)
    exact .inl (b x _ z.1 z.2 q)
  · have z := n _ q (fun _ e => nomatch e) (fun _ _ _ e => nomatch e)
    exact .inr ⟨o, b x _ z.1 z.2 q⟩
theorem DkAt.ne (h : DkAt K C H a ps d) : a ≠ ps := by
  obtain ⟨dx, vs, h1, h2, h3⟩ := h
  intro e
  rw [e, h2] at h1
  cases h1
/-- written: its text -/
theorem DkAt.put {dx : Addr} {vs : List V} {b : Str} (h1 : H a = some (.ins C dx (dkF d ps))) (h2 : H ps = some (.lst vs)) (h3 : DpAll K H vs (d.steps.map stepD)) : DkAt K C (upd H a (.ins C dx (putF "now" (.str b) (dkF d ps)))) a ps { d with now := b } ∧ Bd a ps H (upd H a (.ins C dx (putF "now" (.str b) (dkF d ps)))) := by
  have ne : ps ≠ a := fun e => by rw [e, h1] at h2; cases h2
  have bb : Bd a ps H (upd H a (.ins C dx (putF "now" (.str b) (dkF d ps)))) := fun x o n1 _ h => (upd_ne n1).trans h
  exact ⟨⟨dx, vs, by rw [upd_same]; rfl, (upd_ne ne).trans h2, dpAll_tu (tu_bd ⟨dx, vs, h1, h2, h3⟩ bb) (imm_steps _) h3⟩, bb⟩
variable {σ : L2.St}
/-- its fields, read -/
theorem d_fl {i : Nat} (c : DkC K C) (h : DkAt K C H a ps d) (hs : σ[i]? = some (some (.ref a))) : EvD K (tFld K (tVar i) "letters") σ H (.str d.y) := let ⟨dx, vs, h1, _, _⟩ := h; d_fld hs h1 c.cl c.nl rfl (.str _)
theorem d_ff {i : Nat} (c : DkC K C) (h : DkAt K C H a ps d) (hs : σ[i]? = some (some (.ref a))) : EvD K (tFld K (tVar i) "first") σ H (.str d.first) := let ⟨dx, vs, h1, _, _⟩ := h; d_fld hs h1 c.cl c.nf rfl (.str _)
theorem d_fn {i : Nat} (c : DkC K C) (h : DkAt K C H a ps d) (hs : σ[i]? = some (some (.ref a))) : EvD K (tFld K (tVar i) "now") σ H (.str d.now) := let ⟨dx, vs, h1, _, _⟩ := h; d_fld hs h1 c.cl c.nn rfl (.str _)
theorem d_fs {i : Nat} (c : DkC K C) (h : DkAt K C H a ps d) (hs : σ[i]? = some (some (.ref a))) : EvD K (tFld K (tVar i) "steps") σ H (.list (d.steps.map stepD)) := let ⟨dx, vs, h1, h2, h3⟩ := h; d_fld hs h1 c.cl c.ns rfl (.lst (Evl.sq_of h2) h3)
end
section
variable {P : Program} {w : World} {K : PySem.W.Frag} {mg : Str → Option Value} {base : Heap} {C CL CT CK CD CM : Addr}
/-- Desk(letters, text) -/
abbrev nInit : List Str := ["self", "letters", "text"]
theorem sc_dinit : FnScope nInit nInit (defScope (dm 0)) := ⟨rfl, rfl, rfl, by decide +kernel, rfl, by decide +kernel, by decide +kernel⟩
/-- which is wrong; R: what is asked where both are right -/
def Ck2 (CL CT : Addr) (l t : PyData) (H : Hp) (E : XK) (R : Str → Str → Hp → Prop) : Prop := Tx l ∧ (isLettersD l = false → ∀ H', Ex H H' → E (.ref CL) none H') ∧ ∀ y, l = .str y → isLetS y = true → Tx t ∧ (withinD y 40 t = false → ∀ H', Ex H H' → E (.ref CT) none H') ∧ ∀ z, t = .str z → withinS y z 40 = true → ∀ H', Ex H H' → R y z H'
def spInit (K : PySem.W.Frag) (C CL CT : Addr) : Sp := fun vs H Q E => ∃ (a : Addr) (l t : PyData) (v1 v2 : V) (dx : Addr), vs = [.ref a, v1, v2] ∧ Dp K H v1 l ∧ Dp K H v2 t ∧ H a = some (.ins C dx []) ∧
  Ck2 CL CT l t H E fun y z H1 => ∀ H' ps, (∀ x o, x ≠ a → H1 x = some o → H' x = some o) → H1 ps = none → DkAt K C H' a ps ⟨y, z, z, []⟩ → Q .non H'
theorem within_str {y : Str} {t : PyData} (h : withinD y 40 t = true) : ∃ z, t = .str z ∧ withinS y z 40 = true := by
  cases t with
  | str z => exact ⟨z, rfl, h⟩
  | _ => cases h
theorem x_dinit (c : DkC K C) (D : DfI K C "Desk.__init__" (dm 0)) (hm : mg "Desk" = some (.ref C)) (C1 : Klx P w K mg base 2 "check_letters" ["letters"] (spXLetters K CL)) (C2 : Klx P w K mg base 3 "check_text" ["letters", "text"] (spXText K CT)) : Mkx P w K mg base 4 "Desk" C nInit (spInit K C CL CT) := by
  refine mkx_of D hm sc_dinit (fun vs H Q E ⟨a, l, t, v1, v2, dx, h, _⟩ => by rw [h]; rfl) (fun _ _ _ _ _ _ us hl => match us, hl with | [_, _, _], _ => rfl) fun f cdv A outer s H vs Q E hr h => ?_
  obtain ⟨a, l, t, v1, v2, dx, rfl, h1, h2, ha, o1, o2, o3⟩ := h
  obtain ⟨f1, fd1, F1, m1, k1, b1⟩ := C1
  obtain ⟨f2, fd2, F2, m2, k2, b2⟩ := C2
  refine ⟨_, pss_cons (ps_expr (pe_call F1 (hr.mono (by decide)) (by rfl) m1 k1 b1 .nil (passes_call (takes_of rfl rfl rfl rfl) fun _ _ _ _ h => h) (pa_cons (pv 1) pa_nil)))
    (pss_cons (ps_expr (pe_call F2 (hr.mono (by decide)) (by rfl) m2 k2 b2 .nil (passes_call (takes_of rfl rfl rfl rfl) fun _ _ _ _ h => h) (pa_cons (pv 1) (pa_cons (pv 2) pa_nil))))
    (pss_cons (ps_fld (pv 0) (pv 1) rfl) (pss_cons (ps_fld (pv 0) (pv 2) rfl) (pss_cons (ps_fld (pv 0) (pv 2) rfl) (pss_one (ps_fld (pv 0) (pe_lst pa_nil) rfl)))))), ?_⟩
  refine ⟨v1, rfl, [l], .cons h1 .nil, ⟨l, rfl, o1⟩, fun hl H1 e1 => ?_, fun hl H1 e1 => o2 hl H1 e1⟩
  obtain ⟨y, rfl, hy⟩ := letters_str hl
  obtain ⟨p1, p2, p3⟩ := o3 y rfl hy
  refine ⟨v1, rfl, v2, rfl, [.str y, t], .cons (dp_ex e1 h1) (.cons (dp_ex e1 h2) .nil), ⟨y, t, rfl, p1⟩, fun ht H2 e2 => ?_, fun ht H2 e2 => p2 ht H2 (e1.trans e2)⟩
  obtain ⟨z, rfl, hz⟩ := within_str ht
  cases h1
  cases h2
  have q := p3 z rfl hz H2 (e1.trans e2)
  have ha2 := e2 _ _ (e1 _ _ ha)
  refine ⟨.str y, rfl, .ref a, rfl, a, C, dx, _, rfl, ha2, c.cl, c.nl, by decide, ?_⟩
  refine ⟨.str z, rfl, .ref a, rfl, a, C, dx, _, rfl, upd_same, c.cl, c.nf, by have := putF_len (f := "letters") (v := V.str y) (Nat.le_refl (List.length ([] : List (Str × V)))); simp only [List.length_nil] at this; omega, ?_⟩
  refine ⟨.str z, rfl, .ref a, rfl, a, C, dx, _, rfl, upd_same, c.cl, c.nn, by have := putF_len (f := "first") (v := V.str z) (putF_len (f := "letters") (v := V.str y) (Nat.le_refl (List.length ([] : List (Str × V))))); simp only [List.length_nil] at this; omega, ?_⟩
  refine ⟨Evl.sz_of (by decide), fun ps np => ?_⟩
  rw [upd_upd, upd_upd] at np
  have nps : ps ≠ a := fun e => by rw [e, upd_same] at np; cases np
  refine ⟨.ref a, rfl, a, C, dx, _, rfl, (upd_ne nps.symm).trans upd_same, c.cl, c.ns, by have := putF_len (f := "now") (v := V.str z) (putF_len (f := "first") (v := V.str z) (putF_len (f := "letters") (v := V.str y) (Nat.le_refl (List.length ([] : List (Str × V)))))); simp only [List.length_nil] at this; omega, ?_⟩
  refine q _ ps (fun x o n hx => ?_) ((upd_ne nps).symm.trans np) ⟨dx, [], by rw [upd_same]; rfl, by rw [upd_ne nps, upd_same], .nil⟩
  have nx : x ≠ ps := fun e => by rw [e, show H2 ps = none from (upd_ne nps).symm.trans np] at hx; cases hx
  rw [upd_ne n, upd_ne nx, upd_ne n, upd_ne n, upd_ne n]
  exact hx
end
end K27

set_option maxHeartbeats 4000000
set_option autoImplicit false
/-! the desk's methods. -/
namespace K27
open PySem PySem.Spec PyProof.Rows L2 AsSort AsKit AsToo AsObj
open Evl (Ex Ev EvT EvA)
section
variable {P : Program} {w : World} {K : PySem.W.Frag} {mg : Str → Option Value} {base : Heap} {C CL CT CK CD CM CR CN : Addr}
abbrev nAdd : List Str := ["self", "row", "behind"]
theorem sc_add : FnScope nAdd nAdd (defScope (dm 1)) := ⟨rfl, rfl, rfl, by decide +kernel, rfl, by decide +kernel, by decide +kernel⟩
def spAdd (K : PySem.W.Frag) (C : Addr) : Sp := fun vs H Q _ => ∃ (a ps : Addr) (d : Dk) (v : V) (row : List (Nat × (Str × Str))) (b : Str), vs = [.ref a, v, .str b] ∧ DkAt K C H a ps d ∧ Dp K H v (rowT row) ∧ d.steps.length ≤ 1000 ∧ ∀ H', Bd a ps H H' → DkAt K C H' a ps (d.add row b) → Q .non H'
theorem m_add (c : DkC K C) (D : DfM K C "add_step" "Desk.add_step" (dm 1)) (hb : Bl mg) : Ml P w K mg base 1 C "add_step" nAdd (spAdd K C) := by
  refine ml_of c.cl D sc_add (fun vs H Q E ⟨a, ps, d, v, row, b, h, _⟩ => by rw [h]; rfl) (fun _ _ _ _ _ _ us hl => match us, hl with | [_, _, _], _ => rfl) fun f cdv A outer s H vs Q E hr h => ?_
  obtain ⟨a, ps, d, v, row, b, rfl, hd, hv, hl, q⟩ := h
  refine ⟨_, pss_one (ps_if (pt_cmpR op_gt (pe_lenQ hb (pv 1)) pe_int (nomark _)) (pss_cons (ps_expr (pe_bm PySem.F.plainAttrs_list PySem.F.slot_list_append PySem.F.type_list_append mt_append (pe_fld (pv 0) rfl) (pa_cons (pe_tup (pa_cons (pv 1) (pa_cons (pe_fld (pv 0) rfl) pa_nil))) pa_nil)))
    (pss_one (ps_fld (pv 0) (pv 2) rfl))) pss_nil), ?_⟩
  refine Evl.s_if (b := decide ((0 : Int) < (((row.map fun x => dD x.1 x.2).length : Nat) : Int))) (t_ofD (K := K) (d_cmpI (g := fun i j => decide (j < i)) (d_lenT (d_var ⟨_, rfl, hv⟩)) d_int)) (fun hb1 H1 e1 => ?_) fun hb1 H1 e1 => ?_
  · have hne : row ≠ [] := fun e => by rw [e] at hb1; cases hb1
    obtain ⟨dx, vs, h1, h2, h3⟩ := hd.ex e1
    refine ⟨.ref a, rfl, a, C, dx, _, .ref ps, rfl, h1, c.cl, c.ns, rfl, .inl ⟨rfl, vs, Evl.sq_of h2⟩, ?_⟩
    refine ⟨v, rfl, .ref a, rfl, a, C, dx, _, .str d.now, rfl, h1, c.cl, c.nn, rfl, Evl.sz_of (by show 2 ≤ 100000; decide), fun t nt => ?_⟩
    have xt : Ex H1 (upd H1 t (.tup [v, .str d.now])) := Ex.new nt
    have lv : vs.length = d.steps.length := by rw [dpAll_len h3, List.length_map]
    refine ⟨ps, vs, .ref t, rfl, rfl, xt _ _ h2, Evl.sz_lt (by omega), ?_⟩
    have ap : a ≠ ps := DkAt.ne ⟨dx, vs, h1, h2, h3⟩
    have k2 : upd (upd H1 t (.tup [v, .str d.now])) ps (.lst (vs ++ [.ref t])) a = some (.ins C dx (dkF d ps)) := (upd_ne ap).trans (xt _ _ h1)
    refine ⟨.str b, rfl, .ref a, rfl, a, C, dx, _, rfl, k2, c.cl, c.nn, by show 4 < 1000; decide, ?_⟩
    have hs : Dp K (upd H1 t (.tup [v, .str d.now])) (.ref t) (stepD (row, d.now)) := .tup (Evl.st_of upd_same) (.cons (dp_ex (e1.trans xt) hv) (.cons (.str _) .nil))
    have h4 : DpAll K (upd (upd H1 t (.tup [v, .str d.now])) ps (.lst (vs ++ [.ref t]))) (vs ++ [.ref t]) ((d.steps ++ [(row, d.now)]).map stepD) := by
      rw [List.map_append]
      exact dpAll_snoc (dp_tu (tu_lst (xt _ _ h2)) (imm_step _) hs) (dpAll_tu (tu_lst (xt _ _ h2)) (imm_steps _) (dpAll_ex xt h3))
    have z := DkAt.put (d := { d with steps := d.steps ++ [(row, d.now)] }) (b := b) k2 upd_same h4
    refine q _ ((bd_ex (e1.trans xt)).trans (Bd.trans (fun x o _ n hx => (upd_ne n).trans hx) z.2)) ?_
    have e : d.add row b = { d with now := b, steps := d.steps ++ [(row, d.now)] } := by unfold Dk.add; rw [if_neg hne]
    rw [e]
    exact z.1
  · have he : row = [] := by
      cases row with
      | nil => rfl
      | cons x r => simp only [List.map_cons, List.length_cons] at hb1; have := of_decide_eq_false hb1; omega
    refine q H1 (bd_ex e1) ?_
    have e : d.add row b = d := by unfold Dk.add; rw [if_pos he]
    rw [e]
    exact hd.ex e1
abbrev nText1 : List Str := ["self"]
theorem sc_dtext : FnScope nText1 nText1 (defScope (dm 5)) := ⟨rfl, rfl, rfl, by decide +kernel, rfl, by decide +kernel, by decide +kernel⟩
def spDText (K : PySem.W.Frag) (C : Addr) : Sp := fun vs H Q _ => ∃ (a ps : Addr) (d : Dk), vs = [.ref a] ∧ DkAt K C H a ps d ∧ ∀ H', Ex H H' → Q (.str d.now) H'
theorem m_text (c : DkC K C) (D : DfM K C "text" "Desk.text" (dm 5)) : Ml P w K mg base 1 C "text" nText1 (spDText K C) := by
  refine ml_of c.cl D sc_dtext (fun vs H Q E ⟨a, ps, d, h, _⟩ => by rw [h]; rfl) (fun _ _ _ _ _ _ us hl => match us, hl with | [_], _ => rfl) fun f cdv A outer s H vs Q E hr h => ?_
  obtain ⟨a, ps, d, rfl, hd, q⟩ := h
  refine ⟨_, pss_one (ps_ret (pe_fld (pv 0) rfl)), ?_⟩
  exact AsKit.s_ret (K := K) (d_fn c hd rfl) fun v H1 e1 hv => by cases hv; exact q H1 e1
abbrev nUndo : List Str := ["self", "_", "ahead"]
theorem sc_undo : FnScope nUndo ["self"] (defScope (dm 4)) := ⟨rfl, rfl, rfl, by decide +kernel, rfl, by decide +kernel, by decide +kernel⟩
def spUndo (K : PySem.W.Frag) (C CN : Addr) : Sp := fun vs H Q E => ∃ (a ps : Addr) (d : Dk), vs = [.ref a] ∧ DkAt K C H a ps d ∧ (d.steps = [] → ∀ H', Ex H H' → E (.ref CN) none H') ∧ (d.steps ≠ [] → ∀ H', Bd a ps H H' → DkAt K C H' a ps d.back → Q .non H')
theorem m_undo (c : DkC K C) (D : DfM K C "undo" "Desk.undo" (dm 4)) (hb : Bl mg) (cN : Ec K mg "NothingDone" CN) : Mlx P w K mg base 1 C "undo" ["self"] (spUndo K C CN) := by
  refine mlx_of c.cl D sc_undo (fun vs H Q E ⟨a, ps, d, h, _⟩ => by rw [h]; rfl) (fun _ _ _ _ _ _ us hl => match us, hl with | [_], _ => rfl) fun f cdv A outer s H vs Q E hr h => ?_
  obtain ⟨a, ps, d, rfl, hd, o1, o2⟩ := h
  refine ⟨_, pss_cons (ps_if (pt_cmpR op_eq (pe_lenQ hb (pe_fld (pv 0) rfl)) pe_int (nomark _)) (pss_one (ps_raise0 cN rfl (takes_of rfl rfl rfl rfl) (by rfl))) pss_nil)
    (pss_cons (ps_asg (pe_bm0 PySem.F.plainAttrs_list PySem.F.slot_list_pop PySem.F.type_list_pop mt_pop (pe_fld (pv 0) rfl)) (pg_tup rfl (pgs_cons (pg_name (i := 1) sc_undo.nd rfl (.inl rfl)) (pgs_cons (pg_name (i := 2) sc_undo.nd rfl (.inl rfl)) pgs_nil))))
    (pss_one (ps_fld (pv 0) (pv 2) rfl))), ?_⟩
  refine Evl.q_when (b := decide ((((d.steps.map stepD).length : Nat) : Int) = 0)) (t_ofD (K := K) (d_eqI (d_lenL (d_fs c hd rfl)) d_int)) (fun hb1 H1 e1 => ?_) fun hb1 H1 e1 => ?_
  · have := of_decide_eq_true hb1
    rw [List.length_map] at this
    exact o1 (List.length_eq_zero_iff.mp (by omega)) H1 e1
  · have hne : d.steps ≠ [] := fun e => by rw [e] at hb1; cases hb1
    obtain ⟨dx, vs, h1, h2, h3⟩ := hd.ex e1
    have lv : vs.length = d.steps.length := by rw [dpAll_len h3, List.length_map]
    have hp : 0 < d.steps.length := List.length_pos_iff.mpr hne
    obtain ⟨s, hs⟩ : ∃ s, d.steps[d.steps.length - 1]? = some s := ⟨_, List.getElem?_eq_getElem (by omega)⟩
    obtain ⟨x, hx⟩ : ∃ x, vs[vs.length - 1]? = some x := ⟨_, List.getElem?_eq_getElem (by omega)⟩
    have hxd : Dp K H1 x (stepD s) := dpAll_get h3 hx (by rw [lv, List.getElem?_map, hs]; rfl)
    refine ⟨.ref a, rfl, a, C, dx, _, .ref ps, rfl, h1, c.cl, c.ns, rfl, .inl ⟨rfl, vs, Evl.sq_of h2⟩, ps, vs, x, rfl, rfl, h2, hx, ?_⟩
    have ap : a ≠ ps := DkAt.ne ⟨dx, vs, h1, h2, h3⟩
    have hx2 : Dp K (upd H1 ps (.lst vs.dropLast)) x (stepD s) := dp_tu (tu_lst h2) (imm_step _) hxd
    cases hx2 with
    | tup ht hh =>
      cases hh with
      | cons hr1 hh =>
        cases hh with
        | cons hr2 hh =>
          cases hh
          cases hr2
          refine ⟨_, _, rfl, ht, rfl, ?_⟩
          refine ⟨_, _, rfl, _, _, rfl, rfl, ?_⟩
          have k2 : upd H1 ps (.lst vs.dropLast) a = some (.ins C dx (dkF d ps)) := (upd_ne ap).trans h1
          refine ⟨.str s.2, rfl, .ref a, rfl, a, C, dx, _, rfl, k2, c.cl, c.nn, by show 4 < 1000; decide, ?_⟩
          have ed : vs.dropLast = vs.take (d.steps.length - 1) := by rw [List.dropLast_eq_take, lv]
          have h4 : DpAll K (upd H1 ps (.lst vs.dropLast)) vs.dropLast (d.steps.dropLast.map stepD) := by
            refine dpAll_tu (tu_lst h2) (imm_steps _) ?_
            rw [ed, List.dropLast_eq_take, List.map_take]
            exact dpAll_take _ h3
          have z := DkAt.put (d := { d with steps := d.steps.dropLast }) (b := s.2) k2 upd_same h4
          refine o2 hne _ ((bd_ex e1).trans (Bd.trans (fun x o _ n hx => (upd_ne n).trans hx) z.2)) ?_
          have el : d.steps.getLast? = some s := by rw [List.getLast?_eq_getElem?]; exact hs
          have e : d.back = { d with now := s.2, steps := d.steps.dropLast } := by unfold Dk.back; rw [el]
          rw [e]
          exact z.1
end
end K27

set_option maxHeartbeats 4000000
set_option autoImplicit false
/-! the desk's copy and mend. -/
namespace K27
open PySem PySem.Spec PyProof.Rows L2 AsSort AsKit AsToo AsObj
open Evl (Ex Ev EvT EvA)
section
variable {P : Program} {w : World} {K : PySem.W.Frag} {mg : Str → Option Value} {base : Heap} {C CL CT CK CD CM CR CN : Addr}
abbrev nCopy : List Str := ["self", "kinds", "deed", "behind"]
theorem sc_dcopy : FnScope nCopy ["self", "kinds", "deed"] (defScope (dm 2)) := ⟨rfl, rfl, rfl, by decide +kernel, rfl, by decide +kernel, by decide +kernel⟩
def spCopy (K : PySem.W.Frag) (C CL CK CT CD CM : Addr) : Sp := fun vs H Q E => ∃ (a ps : Addr) (d : Dk) (v1 v2 : V) (k dd : PyData), vs = [.ref a, v1, v2] ∧ DkAt K C H a ps d ∧ d.steps.length ≤ 1000 ∧ Dp K H v1 k ∧ Dp K H v2 dd ∧
  Or3 CL CK CT (.str d.y) k (.str d.now) H E (DoneR CD CM k (.str d.now) dd H (fun u H1 => ∀ b p kk, u = .str b → dd = dD p kk → b = bhS d.now p kk → ∀ H', Bd a ps H1 H' → DkAt K C H' a ps (d.add [(p, kk)] b) → Q .non H') E)
theorem dD_inj {p q : Nat} {k m : Str × Str} (h : dD p k = dD q m) : p = q ∧ k = m := by
  have z := congrArg dOf h
  rw [dOf_dD, dOf_dD] at z
  exact ⟨congrArg Prod.fst z, congrArg Prod.snd z⟩
theorem m_copy (c : DkC K C) (D : DfM K C "copy" "Desk.copy" (dm 2)) (C1 : Klx P w K mg base 7 "done" ["letters", "kinds", "text", "deed"] (spXDone K CL CK CT CD CM)) (C2 : Ml P w K mg base 1 C "add_step" nAdd (spAdd K C)) : Mlx P w K mg base 8 C "copy" ["self", "kinds", "deed"] (spCopy K C CL CK CT CD CM) := by
  refine mlx_of c.cl D sc_dcopy (fun vs H Q E ⟨a, ps, d, v1, v2, k, dd, h, _⟩ => by rw [h]; rfl) (fun _ _ _ _ _ _ us hl => match us, hl with | [_, _, _], _ => rfl) fun f cdv A outer s H vs Q E hr h => ?_
  obtain ⟨a, ps, d, v1, v2, k, dd, rfl, hd, hl, hk, hdd, o⟩ := h
  obtain ⟨f1, fd1, F1, m1, k1, b1⟩ := C1
  refine ⟨_, pss_cons (ps_set (i := 3) sc_dcopy.nd rfl (.inl rfl) (pe_call F1 (hr.mono (by decide)) (by rfl) m1 k1 b1 .nil (passes_call (takes_of rfl rfl rfl rfl) fun _ _ _ _ h => h) (pa_cons (pe_fld (pv 0) rfl) (pa_cons (pv 1) (pa_cons (pe_fld (pv 0) rfl) (pa_cons (pv 2) pa_nil))))))
    (pss_one (ps_expr (pe_ml C2 hr (by decide) (pv 0) (pa_cons (pe_tup (pa_cons (pv 2) pa_nil)) (pa_cons (pv 3) pa_nil))))), ?_⟩
  obtain ⟨dx, vs, h1, h2, h3⟩ := id hd
  refine ⟨.ref a, rfl, a, C, dx, _, .str d.y, rfl, h1, c.cl, c.nl, rfl, v1, rfl, .ref a, rfl, a, C, dx, _, .str d.now, rfl, h1, c.cl, c.nn, rfl, v2, rfl, ?_⟩
  refine ⟨.str d.y, k, .str d.now, dd, .cons (.str _) (.cons hk (.cons (.str _) (.cons hdd .nil))), ?_⟩
  rcases o with o | ⟨ok, sh, o⟩
  · exact .inl o
  · refine .inr ⟨ok, sh, ?_⟩
    rcases o with o | ⟨ks, z, p, kk, e1, e2, e3, o1, o2, o3⟩
    · exact .inl o
    · refine .inr ⟨ks, z, p, kk, e1, e2, e3, o1, o2, ?_⟩
      rcases o3 with o3 | ⟨o3, q⟩
      · exact .inl o3
      · refine .inr ⟨o3, fun H' e => ?_⟩
        have q := q H' e
        subst e3
        cases e2
        obtain ⟨dx', vs', k1', k2', k3'⟩ := hd.ex e
        refine ⟨.ref a, rfl, a, dx', _, rfl, k1', rfl, v2, rfl, Evl.sz_of (by show 1 ≤ 100000; decide), fun t nt => ?_⟩
        have xt : Ex H' (upd H' t (.tup [v2])) := Ex.new nt
        refine ⟨.str (bhS d.now p kk), rfl, a, ps, d, .ref t, [(p, kk)], bhS d.now p kk, rfl, (hd.ex e).ex xt, .tup (Evl.st_of upd_same) (.cons (dp_ex (e.trans xt) hdd) .nil), hl, fun H2 b2 hd2 => ?_⟩
        exact q (bhS d.now p kk) p kk rfl rfl rfl H2 ((bd_ex xt).trans b2) hd2
end
end K27

set_option maxHeartbeats 4000000
set_option autoImplicit false
/-! the law's menders. -/
namespace K27
open PySem PySem.Spec PyProof.Rows L2 AsSort AsKit
open Evl (Ex Ev EvT EvA)
abbrev sMender : Stmt := top 68
section
variable {P : Program} {w : World} {K : PySem.W.Frag} {mg : Str → Option Value} {base : Heap}
theorem allIn_app {y a b : Str} (h1 : allIn y a = true) (h2 : allIn y b = true) : allIn y (a ++ b) = true := by
  unfold allIn at *
  have e : (a ++ b).cps.toList = a.cps.toList ++ b.cps.toList := by
    show (a.cps ++ b.cps).toList = _
    exact Array.toList_append
  rw [e, List.all_append, h1, h2]
  rfl
theorem allIn_one {y : Str} {c : Nat} (h : c ∈ y.cps.toList) : allIn y ⟨#[c]⟩ = true := by
  unfold allIn
  show [c].all _ = true
  simpa using h
theorem allIn_nil (y : Str) : allIn y "" = true := by
  unfold allIn
  rw [show ("" : Str).cps.toList = [] from by decide +kernel]
  rfl
/-- a mender's kind -/
def GdM (y : Str) (p : Str × Str) : Prop := Gd y p ∧ p.2.length < p.1.length
abbrev nMender : List Str := ["row", "letters", "found", "turn", "l", "kind"]
theorem sc_mender : FnScope nMender ["row", "letters"] (defScope sMender) := ⟨rfl, rfl, rfl, by decide +kernel, rfl, by decide +kernel, by decide +kernel⟩
def spMender (K : PySem.W.Frag) : Sp := fun vs H Q _ => ∃ (r : Addr) (S : Addr × List Int) (y : Str), vs = [.ref r, .str y] ∧ Row K S H r ∧ PyData.strOk y = true ∧ 0 < y.length ∧ y.length ≤ 1000 ∧
  ∀ u (ps : List (Str × Str)) H', Dp K H' u (.tuple (ps.map kD)) → ps.Nodup → ps.length ≤ 4 → (∀ p ∈ ps, GdM y p) → Bt r H H' → Row K S H' r → Q u H'
/-- .. as it grows -/
def MdI (K : PySem.W.Frag) (S : Addr × List Int) (r : Addr) (y : Str) (H : Hp) (i : Nat) (σ' : L2.St) (H' : Hp) : Prop := ∃ (l : Addr) (x3 x4 x5 : Option V), σ' = [some (.ref r), some (.str y), some (.ref l), x3, x4, x5] ∧ Bt r H H' ∧ Row K S H' r ∧ l ≠ r ∧ ∃ (acc : List V) (ps : List (Str × Str)), H' l = some (.lst acc) ∧ DpAll K H' acc (ps.map kD) ∧ ps.Nodup ∧ ps.length ≤ i ∧ ∀ p ∈ ps, GdM y p
theorem c_mender (D : Df K mg "_law_mender" sMender) (hb : Bl mg) (C1 : Cl P w K mg base 1 "_law_taken" (spTaken K) []) (C2 : Cl P w K mg base 2 "_law_pick" (spPick K) []) (C3 : Cl P w K mg base 3 "_law_text" (spText K) []) : Cl P w K mg base 4 "_law_mender" (spMender K) [] := by
  refine cl_of D sc_mender (fun vs H Q E ⟨r, S, y, h, _⟩ => by rw [h]; rfl) (fun _ _ _ _ _ _ us hl => match us, hl with | [_, _], _ => rfl) fun f cdv A outer s H vs Q E hr h => ?_
  obtain ⟨r, S, y, rfl, hR, hso, hy, hy2, q⟩ := h
  have hu : (A.deeper (envOfC "_law_mender" (defScope sMender) s.heap.objs.size f cdv)).units + 65 < cLine := by have := hr.un; omega
  refine ⟨_, pss_cons (ps_set (i := 2) sc_mender.nd rfl (.inl rfl) (pe_lst pa_nil))
    (pss_cons (ps_for PassesOwn.never rfl (pi_range1 (by rfl) (hb _ (by decide +kernel)) (pa_cons (pe_op op_add pe_int (C8.pe_c C1 hr (by decide) (by rfl) (pa_cons (pv 0) (pa_cons pe_int pa_nil)))) pa_nil)) (pg_name (i := 3) sc_mender.nd rfl (.inl rfl))
      (pss_cons (ps_set (i := 4) sc_mender.nd rfl (.inl rfl) (pe_op op_add_str (C8.pe_c C3 hr (by decide) (by rfl) (pa_cons (pv 0) (pa_cons (pv 1) (pa_cons pe_int pa_nil)))) (C8.pe_c C2 hr (by decide) (by rfl) (pa_cons (pv 0) (pa_cons (pe_callTy (call_listS1 rfl) (by rfl) (hb _ (by decide +kernel)) (by decide +kernel) (pa_cons (pv 1) pa_nil)) pa_nil)))))
      (pss_cons (ps_set (i := 5) sc_mender.nd rfl (.inl rfl) (pe_tup (pa_cons (pv 4) (pa_cons (pe_ifExp (pt_cmpR op_gt (pe_lenS hb (pv 4)) pe_int (nomark _)) (C8.pe_c C3 hr (by decide) (by rfl) (pa_cons (pv 0) (pa_cons (pv 1) (pa_cons pe_int pa_nil)))) pe_str) pa_nil))))
      (pss_one (ps_set (i := 2) sc_mender.nd rfl (.inl rfl) (pe_op op_cat (pv 2) (pe_op op_rep (pe_lst (pa_cons (pv 5) pa_nil)) (pe_int1 hb (pe_cmpR (op_notInD hu) (pv 5) (pv 2) rfl)))))))))
    (pss_one (ps_ret (pe_tupQ hb (pv 2))))), ?_⟩
  refine ⟨Evl.sz_of (Nat.zero_le _), fun l nl => ?_⟩
  have nL := row_new (o := .lst []) hR nl
  refine ⟨.ref r, rfl, r, S, 4, rfl, nL.2.1, by omega, by omega, fun k H1 hk hb1 hR1 => ?_⟩
  have h1l : H1 l = some (.lst []) := hb1 l _ nL.1 upd_same
  refine ⟨1, (k : Int), rfl, rfl, 1 + (k : Int), rfl, by omega, by omega, ?_⟩
  refine for_range (lo := 0) (n := (1 + (k : Int)).toNat) (fun i σ' H' => MdI K S r y H i σ' H')
    ⟨l, _, _, _, rfl, nL.2.2.trans hb1, hR1, nL.1, [], [], h1l, .nil, List.nodup_nil, Nat.le_refl _, fun _ h => nomatch h⟩ (fun i σ' H' hi p => ?_) fun σ' H' p => ?_
  · obtain ⟨l, x3, x4, x5, rfl, p1, p2, lr, acc, ps, p3, p4, p5, p6, p7⟩ := p
    have okp : ∀ p ∈ ps, allIn y p.1 = true ∧ allIn y p.2 = true := fun p hp => ⟨(p7 p hp).1.2.2.1, (p7 p hp).1.2.2.2.1⟩
    have himm : immAll (ps.map kD) = true := immAll_of fun d hd => by
      obtain ⟨p, _, rfl⟩ := List.mem_map.mp hd
      rfl
    -- l = .. + ..
    refine ⟨.ref r, rfl, .str y, rfl, r, S, y, 2, rfl, p2, hy, hy2, by omega, fun a H2 ha ha2 hb2 hR2 => ?_⟩
    refine ⟨.ref r, rfl, .str y, rfl, y, rfl, Evl.sz_of (by omega), fun t nt => ?_⟩
    have nT := row_new (o := .lst (y.cps.toList.map fun c => V.str ⟨#[c]⟩)) hR2 nt
    have hyl : y.cps.toList.length = y.length := Array.length_toList
    refine ⟨r, S, t, _, rfl, nT.2.1, nT.1, Evl.sq_of upd_same, ?_, by rw [List.length_map]; omega, fun x H3 hx hb3 hR3 => ?_⟩
    · intro e
      have := congrArg List.length e
      rw [List.length_map, List.length_nil] at this
      omega
    obtain ⟨c, hc, rfl⟩ := List.mem_map.mp hx
    have e1 : (⟨#[c]⟩ : Str).length = 1 := rfl
    have hl1 : (a ++ ⟨#[c]⟩ : Str).length ≤ 3 := by rw [add_len, e1]; omega
    have hl2 : allIn y (a ++ ⟨#[c]⟩) = true := allIn_app ha2 (allIn_one hc)
    have hl3 : 0 < (a ++ ⟨#[c]⟩ : Str).length := by rw [add_len, e1]; omega
    refine ⟨a, ⟨#[c]⟩, rfl, rfl, Evl.sz_of (by rw [e1]; omega), ?_⟩
    dsimp only [gName]
    obtain ⟨w, ew⟩ : ∃ w, w = a ++ (⟨#[c]⟩ : Str) := ⟨_, rfl⟩
    rw [← ew] at hl1 hl2 hl3 ⊢
    have b03 : Bt r H' H3 := hb2.trans (nT.2.2.trans hb3)
    -- kind
    have rest : ∀ (b : Str) (H4 : Hp), Bt r H3 H4 → Row K S H4 r → b.length ≤ 1 → allIn y b = true → b.length < w.length → ∀ (Dn : Ends), (∀ σ' H', MdI K S r y H (i + 1) σ' H' → Dn.nx σ' H') →
        ∀ cc, H4 cc = none → tAsg (tOp rCat (tVar 2) (tOp rRep (tLst (tCons (tVar 5) tNil)) (tCB rInt1 (tCons (tOp (rNotInD K) (tVar 5) (tVar 2)) tNil)))) (gName 2) Dn [some (.ref r), some (.str y), some (.ref l), some (.int (0 + (i : Nat))), some (.str w), some (.ref cc)] (upd H4 cc (.tup [.str w, .str b])) := fun b H4 hb4 hR4 l1 l2 l3 Dn fin cc nc => by
      have h4l : H4 l = some (.lst acc) := (b03.trans hb4) l _ lr p3
      obtain ⟨G, eG⟩ : ∃ G, G = upd H4 cc (.tup [.str w, .str b]) := ⟨_, rfl⟩
      have nC := row_new (o := .tup [.str w, .str b]) hR4 nc
      rw [← eG] at nC
      have cl : l ≠ cc := fun e => by rw [e, nc] at h4l; cases h4l
      have hGl : G l = some (.lst acc) := by rw [eG, upd_ne cl]; exact h4l
      have bG : Bt r H' G := (b03.trans hb4).trans nC.2.2
      have hacc : DpAll K G acc (ps.map kD) := dpAll_tu (tu_bt p2 bG) himm p4
      have hcd : Dp K G (.ref cc) (kD (w, b)) := .tup (Evl.st_of (by rw [eG, upd_same])) (.cons (.str w) (.cons (.str b) .nil))
      rw [← eG]
      refine ⟨.ref l, rfl, .ref cc, rfl, Evl.sz_of (by show 1 ≤ 100000; decide), fun t2 nt2 => ?_⟩
      obtain ⟨G2, eG2⟩ : ∃ G2, G2 = upd G t2 (.lst [.ref cc]) := ⟨_, rfl⟩
      rw [← eG2]
      have x2 : Ex G G2 := by rw [eG2]; exact Ex.new nt2
      have hG2 : G2 t2 = some (.lst [.ref cc]) := by rw [eG2, upd_same]
      have c5 : At K [some (.ref r), some (.str y), some (.ref l), some (.int (0 + (i : Nat))), some (.str w), some (.ref cc)] G2 5 (kD (w, b)) := ⟨_, rfl, dp_ex x2 hcd⟩
      have c2 : At K [some (.ref r), some (.str y), some (.ref l), some (.int (0 + (i : Nat))), some (.str w), some (.ref cc)] G2 2 (.list (ps.map kD)) := ⟨_, rfl, .lst (Evl.sq_of (x2 _ _ hGl)) (dpAll_ex x2 hacc)⟩
      refine d_notIn (d_var c5) (d_var c2) (shaped_kind hso hl2 l2) (shaped_kinds hso okp) G2 (Ex.refl _) _ fun v H5 e5 hv => ?_
      cases hv
      obtain ⟨bb, ebb⟩ : ∃ bb, bb = ((ps.map kD).any fun z => PyData.eqv z (kD (w, b))) := ⟨_, rfl⟩
      rw [← ebb]
      refine .inr ⟨!bb, rfl, t2, _, [.ref cc], rfl, rfl, e5 _ _ hG2, by cases bb <;> decide, by cases bb <;> decide, by cases bb <;> exact Evl.sz_of (by show 1 * _ ≤ 100000; decide), fun t3 nt3 => ?_⟩
      have h5l : H5 l = some (.lst acc) := e5 _ _ (x2 _ _ hGl)
      have tl : l ≠ t3 := fun e => by rw [e, nt3] at h5l; cases h5l
      have hn : acc.length ≤ 4 := by
        rw [dpAll_len p4, List.length_map]
        omega
      refine ⟨l, t3, acc, _, rfl, rfl, by rw [upd_ne tl]; exact h5l, upd_same, ?_, fun t4 nt4 => ?_⟩
      · cases bb
        · exact Evl.sz_of (by show acc.length + 1 ≤ 100000; omega)
        · exact Evl.sz_of (by show acc.length + 0 ≤ 100000; omega)
      have x5 : Ex G (upd (upd H5 t3 (.lst (List.replicate (if (!bb) = true then (1 : Int) else 0).toNat [V.ref cc]).flatten)) t4 (.lst (acc ++ (List.replicate (if (!bb) = true then (1 : Int) else 0).toNat [V.ref cc]).flatten))) := ((x2.trans e5).trans (Ex.new nt3)).trans (Ex.new nt4)
      have n4 := row_new (o := .lst (acc ++ (List.replicate (if (!bb) = true then (1 : Int) else 0).toNat [V.ref cc]).flatten)) (((nC.2.1.ex x2).ex e5).ex (Ex.new (o := .lst (List.replicate (if (!bb) = true then (1 : Int) else 0).toNat [V.ref cc]).flatten) nt3)) nt4
      refine fin _ _ ⟨t4, _, _, _, rfl, (p1.trans bG).trans (bt_ex x5), n4.2.1, n4.1, ?_⟩
      have hacc5 := dpAll_ex x5 hacc
      have hcd5 := dp_ex x5 hcd
      cases bb with
      | true => exact ⟨acc ++ [], ps, upd_same, by rw [List.append_nil]; exact hacc5, p5, by omega, p7⟩
      | false =>
        have hnm : (w, b) ∉ ps := fun hmem => by
          have : ((ps.map kD).any fun z => PyData.eqv z (kD (w, b))) = true := List.any_eq_true.mpr ⟨_, List.mem_map_of_mem hmem, SeqAt.eqv_refl (kD (w, b)) (SeqAt.canLay_of_shaped (shaped_kind hso hl2 l2))⟩
          exact Bool.false_ne_true (ebb.trans this)
        refine ⟨acc ++ [.ref cc], ps ++ [(w, b)], upd_same, ?_, ?_, by rw [List.length_append]; show ps.length + 1 ≤ i + 1; omega, fun p hp => ?_⟩
        · rw [List.map_append]
          exact dpAll_snoc hcd5 hacc5
        · exact List.nodup_append.mpr ⟨p5, List.nodup_cons.mpr ⟨List.not_mem_nil, List.nodup_nil⟩, fun x hx y' hy' e => by rw [List.mem_singleton.mp hy'] at e; exact hnm (e ▸ hx)⟩
        · rcases List.mem_append.mp hp with hp | hp
          · exact p7 p hp
          · rw [List.mem_singleton.mp hp]
            refine ⟨⟨hl1, l1, hl2, l2, fun e => ?_⟩, l3⟩
            have e : w = b := e
            rw [e] at l3
            omega
    refine ⟨.str w, rfl, ?_⟩
    have tst := t_ofD (K := K) (σ := [some (.ref r), some (.str y), some (.ref l), some (.int (0 + (i : Nat))), some (.str w), x5]) (H := H3) (d_cmpI (g := fun i j => decide (j < i)) (d_lenS (x := w) (d_var (i := 4) ⟨_, rfl, .str w⟩) (by omega)) (d_int (i := 1)))
    refine tst H3 (Ex.refl _) _ fun H4 e4 => ?_
    by_cases h1 : (1 : Int) < (w.length : Int)
    · rw [if_pos (decide_eq_true h1)]
      refine ⟨.ref r, rfl, .str y, rfl, r, S, y, 1, rfl, hR3.ex e4, hy, hy2, by omega, fun b H5 hb5 hb5' bb5 hR5 => ?_⟩
      refine ⟨Evl.sz_of (by show 2 ≤ 100000; decide), fun cc nc => ?_⟩
      dsimp only
      exact rest b H5 ((bt_ex e4).trans bb5) hR5 hb5 hb5' (by omega) _ (fun _ _ h => h) cc nc
    · rw [if_neg (by simpa using h1)]
      refine ⟨Evl.sz_of (by show 2 ≤ 100000; decide), fun cc nc => ?_⟩
      dsimp only
      exact rest "" H4 (bt_ex e4) (hR3.ex e4) (by decide) (allIn_nil y) (by show 0 < _; exact hl3) _ (fun _ _ h => h) cc nc
  · obtain ⟨l, x3, x4, x5, rfl, p1, p2, lr, acc, ps, p3, p4, p5, p6, p7⟩ := p
    refine AsKit.s_ret (K := K) (d_tupOf (d_var ⟨_, rfl, .lst (Evl.sq_of p3) p4⟩)) fun u H2 e2 hu => q u ps H2 hu p5 (by omega) p7 (p1.trans (bt_ex e2)) (p2.ex e2)
end
end K27

set_option maxHeartbeats 4000000
set_option autoImplicit false
/-! max(xs, key=f), f a lambda whose promise is a number. -/
namespace AsMax
open PySem PySem.Spec PyProof.Rows L2 LamX NdefX AsSort
open Evl (Ex)
section
variable {X : Cx} {pins : List (Addr × Obj)} {σ : L2.St} {H : Hp} {s : Shared}
/-- f gives the i-th item its i-th number, from wherever it is called one call deeper -/
def Keys1 (X : Cx) (f : Value) (H : Hp) (xs : List V) (ks : List Int) : Prop :=
  ∀ (pins : List (Addr × Obj)) (σ : L2.St) (G : Hp) (z : Shared) (i : Nat) (x : V) (u : Value) (n : Int), Inv X pins σ G z → Ex H G → xs[i]? = some x → ks[i]? = some n → RelV x u →
    wpAny (model X.prog X.w) X.A.in1 (call f [u]) (fun u' z' => ∃ v G', Inv X pins σ G' z' ∧ RelV v u' ∧ Ex G G' ∧ v = .int n ∧ ∀ b o, z.heap.get? b = some o → G b = none → b ∉ X.fs → b ≠ X.env.locals → z'.heap.get? b = some o ∧ G' b = none) (fun _ _ => False) z
def btI (ks : List Int) (i j : Nat) : Bool := decide (ks.getD i 0 > ks.getD j 0)
theorem fp_to {G G' : Hp} {b : Addr} (h : FpOk X pins G b) (n : G' b = none) : FpOk X pins G' b := ⟨n, h.2⟩
/-- the i-th of the first n, the first one with the greatest number -/
theorem max_run {l f : Addr} {xs : List V} {ks : List Int} {Q : VK} (hh : X.A.handled = none) (I : Inv X pins σ H s) (hs : SqL X.K H l xs) (hk : Keys1 X (.ref f) H xs ks) (hl : ks.length = xs.length) (hn : 0 < xs.length)
    (q : ∀ x G, xs[argBest (btI ks) (xs.length - 1)]? = some x → Ex H G → Q x G) : wpAny (model X.prog X.w) X.A (call (.builtin "max") [.ref l] [(Str.ofString "key", .ref f)]) (EP X pins σ Q) X.xe s := by
  obtain ⟨its, r, ⟨o, n, ho, hc, hsl, hd⟩, hz⟩ := I.list hs
  refine call_max_walkK (wpAny_pyIter_list (items := its.toArray) ⟨o, ho, hc, n, hd⟩ ?_)
  obtain ⟨it, eit⟩ : ∃ it, it = s.heap.objs.size := ⟨_, rfl⟩
  rw [← eit]
  obtain ⟨s2, e2⟩ : ∃ s2 : Shared, s2 = { s with heap := s.heap.push { cls := .type "list_iterator", data := .fields #[.ref l, .int 0 0] } } := ⟨_, rfl⟩
  rw [← e2]
  have kp : ∀ b o, s.heap.get? b = some o → s2.heap.get? b = some o := fun b o e => by rw [e2]; exact Heap.get?_push_of_some _ e
  have I2 : Inv X pins σ H s2 := by rw [e2]; exact I.kept (t' := s.toks) (fun b o e => Heap.get?_push_of_some _ e)
  have nit : H it = none := I.hok.fresh (by rw [eit]; exact Nat.le_refl _)
  have hit : s2.heap.get? it = some { cls := .type "list_iterator", data := .fields #[.ref l, .int 0 0] } := by rw [e2, eit]; exact Heap.get?_push_size _ rfl
  have fit : FpOk X pins H it := I.fpOk (by rw [eit]; exact Nat.le_refl _) nit
  have hsz2 : s2.heap.objs.size = it + 1 := by rw [e2, eit]; exact size_push' _ _
  have hlt : l < it := by rw [eit]; exact Heap.lt_size ho
  obtain ⟨S, eS⟩ : ∃ S, S = s2.heap.objs.size := ⟨_, rfl⟩
  have nS : H S = none := I2.hok.fresh (by rw [eS]; exact Nat.le_refl _)
  have fS : FpOk X pins H S := I2.fpOk (by rw [eS]; exact Nat.le_refl _) nS
  have hne : it ≠ S := by rw [eS, hsz2]; exact Nat.ne_of_lt (Nat.lt_succ_self _)
  have hlS : l ≠ S := by rw [eS, hsz2]; exact Nat.ne_of_lt (Nat.lt_succ_of_lt hlt)
  refine ⟨it, [it, l], [it], (fun a b => a = b), xs.length, (fun i v => ∃ x, xs[i]? = some x ∧ RelV x v), (fun i z => z.heap.IsListIter it l i ∧ ∃ its : List Value, Vals xs its ∧ z.heap.IsList l its.toArray), (fun z => ∃ G, Inv X pins σ G z ∧ Ex H G ∧ G it = none ∧ G S = none), (fun i k _ => ∃ t, k = .int (ks.getD i 0) t), btI ks, rfl, ?W, ⟨⟨_, hit, rfl, rfl⟩, its, r, _, kp _ _ ho, hc, n, hd⟩, ?fp, hn, ?K, ⟨H, I2, Ex.refl H, nit, nS⟩, ?fin⟩
  case fp =>
    intro b hb
    rw [hsz2]
    rcases List.mem_cons.mp hb with e | hb
    · rw [e]
      exact Nat.lt_succ_self _
    · rw [List.mem_singleton.mp hb]
      exact Nat.lt_succ_of_lt hlt
  case fin =>
    rintro v z ⟨x, hx, rv⟩ ⟨G, J, e, _, _⟩
    exact ⟨x, G, J, rv, q x G hx e⟩
  case W =>
    refine ⟨fun b hb => by rw [List.mem_singleton.mp hb]; exact List.mem_cons_self .., fun _ => rfl, fun _ _ _ a b => a.trans b, ?_, ?_, ?_, ?_⟩
    · rintro i z h' tk ⟨⟨o1, a1, a2, a3⟩, its', r', o2, b1, b2, b3⟩ ht k
      exact ⟨⟨o1, k it (List.mem_cons_self ..) _ a1, a2, a3⟩, its', r', o2, k l (List.mem_cons_of_mem _ (List.mem_cons_self ..)) _ b1, b2, b3⟩
    · rintro i z Q' E' hi ⟨h1, its', r', h2⟩ qq
      obtain ⟨u, hu, ru⟩ := r'.get (List.getElem?_eq_getElem hi)
      refine wpAny_pyNext_list_item h1 h2 (x := u) (by rw [List.getElem?_toArray]; exact hu) fun h' hit' sb => ?_
      obtain ⟨o2, b1, b2, b3⟩ := h2
      refine qq u _ ⟨_, List.getElem?_eq_getElem hi, ru⟩ ⟨hit', its', r', o2, (sb.2 l (Nat.ne_of_lt hlt)).trans b1, b2, b3⟩ ⟨fun b o hb e => ?_, rfl, rfl, rfl, Nat.le_refl _⟩
      exact (sb.2 b (fun e => hb (by rw [e]; exact List.mem_singleton.mpr rfl))).trans e
    · rintro z Q' E' ⟨h1, its', r', h2⟩ qq
      have hlen : its'.length = xs.length := r'.length.symm
      refine wpAny_pyNext_list_end hh h1 h2 (by rw [List.getElem?_toArray]; exact List.getElem?_eq_none (by omega)) fun h' eb => qq _ ⟨fun b o hb e => ?_, rfl, rfl, rfl, Nat.le_refl _⟩
      exact eb b o (fun e => hb (by rw [e]; exact List.mem_singleton.mpr rfl)) e
    · rintro i z Q' E' ⟨h1, _⟩ qq
      exact wpAny_pyIter_listiter h1 qq
  case K =>
    rw [← eS]
    refine ⟨?_, fun i k z z' h _ => h, ?_, ?_⟩
    · rintro z z' ⟨G, J, e, n1, n2⟩ M
      obtain ⟨zh, zg, zd, zt, zo⟩ := z
      obtain ⟨zh', zg', zd', zt', zo'⟩ := z'
      obtain ⟨m1, m2, m3, m4, m5⟩ := M
      dsimp only at m1 m2 m3 m4
      subst m2 m3 m4
      refine ⟨G, J.turnedL (h' := zh') (t' := zt') (ch := [S, it]) (fun b o hb e => m1 b o hb e) (fun b hb => ?_), e, n1, n2⟩
      rcases List.mem_cons.mp hb with rfl | hb
      · exact fp_to fS n2
      · rw [List.mem_singleton.mp hb]
        exact fp_to fit n1
    · rintro i v z oS Q' E' hi ⟨x, hx, rv⟩ ⟨G, J, e, n1, n2⟩ ⟨⟨o1, a1, a2, a3⟩, its', r', h2⟩ hS qq
      have hkn : ks[i]? = some (ks.getD i 0) := by
        rw [List.getD_eq_getElem?_getD, List.getElem?_eq_getElem (by omega)]
        rfl
      refine wpAny_mono (hk pins σ G z i x v _ J e hx hkn rv) (fun u' z' hq => ?_) fun _ _ hF => hF.elim
      obtain ⟨v', G', J', rv', e', rfl, kk⟩ := hq
      obtain ⟨t, rfl⟩ := rv'
      obtain ⟨its2, r2, ⟨o2, n2', b1, b2, b3, b4⟩, _⟩ := J'.list (Evl.ex_l (e.trans e') hs)
      exact qq _ z' ⟨G', J', e.trans e', (kk it _ a1 n1 fit.2.2.1 fit.2.1).2, (kk S _ hS n2 fS.2.2.1 fS.2.1).2⟩ ⟨⟨o1, (kk it _ a1 n1 fit.2.2.1 fit.2.1).1, a2, a3⟩, its2, r2, o2, b1, b2, n2', b4⟩ (kk S _ hS n2 fS.2.2.1 fS.2.1).1 ⟨t, rfl⟩ fun _ _ h => h
    · rintro i j ki kj z Q' E' _ h1 h2 qq
      exact PySem.CmpOf.ints_gt (P := fun i v => ∃ t, v = .int (ks.getD i 0) t) (fun i => ks.getD i 0) (fun i v h => h) i j _ _ _ _ _ h1 h2 qq
/-- a lambda without captured names as such a key -/
theorem keys1_lam {k : Nat} {f : Addr} {F : NF} {e : Expr} {x : Str} {pre : List PyData → Prop} {g : List PyData → PyData} {H : Hp} {xs : List V} {ds : List PyData} {ks : List Int} (L : AsLam.LOk X.prog X.w X.K X.mg X.base C8.CX0 k f F e [x] [] (fun _ => AsSort.spP X.K pre g)) (hr : Room (k + 1) X.A)
    (hf : H f = some (AsLam.LamO f F e)) (hc : H F.c = some (CodeO F.c F.qual)) (hcl : F.cl = []) (hd : DpAll X.K H xs ds) (hp : ∀ d ∈ ds, pre [d]) (hk : (ds.map fun d => g [d]) = ks.map PyData.int) : Keys1 X (.ref f) H xs ks := by
  intro pins σ G z i v u n I ex hx hn ru
  have hkn : (ds.map fun d => g [d])[i]? = some (.int n) := by rw [hk, List.getElem?_map, hn]; rfl
  rw [List.getElem?_map] at hkn
  cases hi : ds[i]? with
  | none => rw [hi] at hkn; cases hkn
  | some d0 =>
    rw [hi] at hkn
    have ed : g [d0] = .int n := Option.some.inj hkn
    have hv : Dp X.K G v d0 := AsSort.dp_ex ex (AsSort.dpAll_get hd hx hi)
    have E0' : Env0 X.prog X.w X.K X.mg X.base X.A.in1 X.stack z G := I.env0.in1
    have C : CellsAt F.cl [] [] z.heap G := by
      rw [hcl]
      exact ⟨rfl, fun _ _ q => (nomatch q), fun _ _ _ q => (nomatch q), fun i y q => (nomatch q)⟩
    refine wpAny_call (codeAny_mono (L.run X.A.in1 X.stack z G [u] [v] [] (fun v G' => Ex G G' ∧ Dp X.K G' v (.int n)) C8.E0 hr.in1 E0' (ex _ _ hf) (ex _ _ hc) C (.cons ru .nil) ⟨[d0], .cons hv .nil, hp d0 (List.mem_of_getElem? hi), fun w' G' e' h' => ⟨e', by rw [← ed]; exact h'⟩⟩) fun r s' hq => ?_)
    cases r with
    | error e => exact hq.elim
    | ok fl =>
      cases fl with
      | ret u =>
        obtain ⟨v', H', os, bare, un, hok, rr, e', hd'⟩ := hq
        cases hd'
        obtain ⟨hh, g', d', t', os'⟩ := s'
        obtain rfl : os' = z.os := os
        refine ⟨_, H', I.call (h' := hh) (g' := g') (d' := d') (t' := t') (ch := []) un hok bare (fun b z => absurd z (by simp)), rr, e', rfl, fun b o hb hn hfs hl => ⟨un.keep b o hb hn (fun w => (List.mem_cons.mp (I.stkSub b w)).elim hl hfs) List.not_mem_nil, un.free b o hb hn List.not_mem_nil⟩⟩
      | next => exact False.elim hq
      | brk => exact False.elim hq
      | cont => exact False.elim hq
/-- max(xs, key=f) -/
def rMaxLam (K : PySem.W.Frag) (mk : Addr → NF) (e : Expr) (pre : List PyData → Prop) (g : List PyData → PyData) : List V → List V → Hp → VK → Prop := fun vs zs H Q => ∃ (l f c' : Addr) (xs : List V) (ds : List PyData) (ks : List Int), vs = [.ref l] ∧ zs = [.ref f] ∧ H f = some (AsLam.LamO f (mk c') e) ∧ H c' = some (CodeO c' (mk c').qual) ∧
  SqL K H l xs ∧ DpAll K H xs ds ∧ (∀ d ∈ ds, pre [d]) ∧ (ds.map fun d => g [d]) = ks.map PyData.int ∧ 0 < ds.length ∧
  ∀ x d G, ds[argBest (btI ks) (ds.length - 1)]? = some d → Ex H G → Dp K G x d → Q x G
theorem cr_maxLam {k : Nat} {mk : Addr → NF} {e : Expr} {x : Str} {pre : List PyData → Prop} {g : List PyData → PyData} (L : ∀ f c', AsLam.LOk X.prog X.w X.K X.mg X.base C8.CX0 k f (mk c') e [x] [] (fun _ => AsSort.spP X.K pre g)) (hr : Room (k + 1) X.A) (hcl : ∀ c', (mk c').cl = []) (hc : ∀ c', (mk c').c = c') :
    CallRK X (.builtin "max") [Str.ofString "key"] (rMaxLam X.K mk e pre g) := by
  intro pins s σ H vs zs us ws Q I r rz h
  obtain ⟨l, f, c', xs, ds, ks, rfl, rfl, hf, hco, hs, hd, hp, hk, hn, q⟩ := h
  obtain rfl := Vals.ref1 r
  obtain ⟨w1, rfl, e1⟩ := vals1 rz
  obtain rfl : w1 = Value.ref f := e1
  have hl : xs.length = ds.length := AsSort.dpAll_len hd
  have hkl : ks.length = ds.length := by
    have := congrArg List.length hk
    rw [List.length_map, List.length_map] at this
    exact this.symm
  refine max_run hr.hd I hs (keys1_lam (L f c') hr hf (by rw [hc]; exact hco) (hcl c') hd hp hk) (by omega) (by omega) fun x G hx e => ?_
  rw [hl] at hx
  have hlt : argBest (btI ks) (ds.length - 1) < ds.length := by
    have := (List.getElem?_eq_some_iff.mp hx).1
    omega
  exact q x _ G (List.getElem?_eq_getElem hlt) e (AsSort.dp_ex e (AsSort.dpAll_get hd hx (List.getElem?_eq_getElem hlt)))
end
end AsMax

set_option maxHeartbeats 4000000
set_option autoImplicit false
/-! menders, told without the program. -/
namespace K27
open PySem PySem.Spec PyProof.Rows L2 AsSort AsKit AsMax
def lensK (ks : List (Str × Str)) : List Int := ks.map fun k => (k.1.length : Int)
def bestI (ks : List (Str × Str)) : Nat := argBest (btI (lensK ks)) (ks.length - 1)
def bestK (ks : List (Str × Str)) : Str × Str := ks.getD (bestI ks) ("", "")
theorem best_props (bt : Nat → Int) (b2 : Nat → Nat → Bool) (hb : ∀ i j, b2 i j = decide (bt i > bt j)) : ∀ k, argBest b2 k ≤ k ∧ (∀ j, j ≤ k → bt j ≤ bt (argBest b2 k)) ∧ ∀ j, j < argBest b2 k → bt j < bt (argBest b2 k)
  | 0 => ⟨Nat.le_refl _, fun j h => by rw [Nat.le_zero.mp h]; exact Int.le_refl _, fun j h => absurd h (Nat.not_lt_zero _)⟩
  | k + 1 => by
    obtain ⟨h1, h2, h3⟩ := best_props bt b2 hb k
    show (if b2 (k + 1) (argBest b2 k) = true then k + 1 else argBest b2 k) ≤ k + 1 ∧ (∀ j, j ≤ k + 1 → bt j ≤ bt (if b2 (k + 1) (argBest b2 k) = true then k + 1 else argBest b2 k)) ∧ ∀ j, j < (if b2 (k + 1) (argBest b2 k) = true then k + 1 else argBest b2 k) → bt j < bt (if b2 (k + 1) (argBest b2 k) = true then k + 1 else argBest b2 k)
    by_cases h : b2 (k + 1) (argBest b2 k) = true
    · rw [if_pos h]
      rw [hb] at h
      have h := of_decide_eq_true h
      refine ⟨Nat.le_refl _, fun j hj => ?_, fun j hj => ?_⟩
      · rcases Nat.lt_or_eq_of_le hj with hj | rfl
        · have := h2 j (by omega)
          omega
        · omega
      · have := h2 j (by omega)
        omega
    · rw [if_neg h]
      rw [hb] at h
      have h : ¬ bt (k + 1) > bt (argBest b2 k) := fun z => h (decide_eq_true z)
      refine ⟨by omega, fun j hj => ?_, h3⟩
      rcases Nat.lt_or_eq_of_le hj with hj | rfl
      · exact h2 j (by omega)
      · omega
theorem bestI_lt {ks : List (Str × Str)} (h : 0 < ks.length) : bestI ks < ks.length := by
  have := (best_props (fun i => (lensK ks).getD i 0) (btI (lensK ks)) (fun i j => rfl) (ks.length - 1)).1
  unfold bestI
  omega
theorem bestK_at {ks : List (Str × Str)} (h : 0 < ks.length) : ks[bestI ks]? = some (bestK ks) := by
  unfold bestK
  rw [List.getD_eq_getElem?_getD, List.getElem?_eq_getElem (bestI_lt h)]
  rfl
theorem lensK_at {ks : List (Str × Str)} {i : Nat} {k : Str × Str} (h : ks[i]? = some k) : (lensK ks).getD i 0 = (k.1.length : Int) := by
  unfold lensK
  rw [List.getD_eq_getElem?_getD, List.getElem?_map, h]
  rfl
theorem bestK_mem {ks : List (Str × Str)} (h : 0 < ks.length) : bestK ks ∈ ks := List.mem_of_getElem? (bestK_at h)
/-- the first with the greatest length -/
theorem bestK_first {ks : List (Str × Str)} (h : 0 < ks.length) {m : Int} (hm : m ∈ lensK ks) (hx : ∀ y ∈ lensK ks, y ≤ m) : (ks.filter fun k => decide ((k.1.length : Int) = m))[0]? = some (bestK ks) := by
  obtain ⟨p1, p2, p3⟩ := best_props (fun i => (lensK ks).getD i 0) (btI (lensK ks)) (fun i j => rfl) (ks.length - 1)
  have hb := bestK_at h
  have eb : (lensK ks).getD (bestI ks) 0 = ((bestK ks).1.length : Int) := lensK_at hb
  have em : ((bestK ks).1.length : Int) = m := by
    have l1 : ((bestK ks).1.length : Int) ≤ m := hx _ (List.mem_map.mpr ⟨_, bestK_mem h, rfl⟩)
    obtain ⟨k, hk, e⟩ := List.mem_map.mp hm
    obtain ⟨i, hi⟩ := List.mem_iff_getElem?.mp hk
    have hlt := (List.getElem?_eq_some_iff.mp hi).1
    have l2 := p2 i (by omega)
    have l2 : (lensK ks).getD i 0 ≤ (lensK ks).getD (bestI ks) 0 := l2
    rw [eb, lensK_at hi] at l2
    omega
  rw [← List.head?_eq_getElem?, List.head?_filter]
  refine List.find?_eq_some_iff_getElem.mpr ⟨by rw [em]; exact decide_eq_true rfl, bestI ks, bestI_lt h, ?_, fun j hj => ?_⟩
  · have := hb
    rw [List.getElem?_eq_getElem (bestI_lt h)] at this
    exact Option.some.inj this
  · have l3 := p3 j hj
    have hjl : j < ks.length := Nat.lt_trans hj (bestI_lt h)
    have l3 : (lensK ks).getD j 0 < (lensK ks).getD (bestI ks) 0 := l3
    rw [eb, lensK_at (List.getElem?_eq_getElem hjl)] at l3
    rw [Bool.not_eq_true', decide_eq_false_iff_not]
    omega
def fitsAt (ps : List (Str × Str)) (z : Str) (p : Nat) : List (Str × Str) := ps.filter (hitB z p)
def placeOf (ps : List (Str × Str)) (z : Str) : Option Nat := (List.range z.length).find? fun p => decide (fitsAt ps z p ≠ [])
def nextK (ps : List (Str × Str)) (z : Str) : Option (Nat × (Str × Str)) := (placeOf ps z).map fun p => (p, bestK (fitsAt ps z p))
def nextD (ps : List (Str × Str)) (z : Str) : PyData := match nextK ps z with
  | none => .none
  | some (p, k) => dD p k
/-- the kinds that a mender may have over letters y -/
def Men (y : Str) (ps : List (Str × Str)) : Prop := ∀ p ∈ ps, GdM y p
theorem next_fit {ps : List (Str × Str)} {z : Str} {p : Nat} {k : Str × Str} (h : nextK ps z = some (p, k)) : p < z.length ∧ k ∈ ps ∧ hitB z p k = true ∧ 0 < (fitsAt ps z p).length ∧ k = bestK (fitsAt ps z p) ∧ placeOf ps z = some p := by
  unfold nextK at h
  obtain ⟨q, hq, e⟩ := Option.map_eq_some_iff.mp h
  cases e
  have h1 : p ∈ List.range z.length := List.mem_of_find?_eq_some hq
  have h2 := List.find?_some hq
  have h3 : fitsAt ps z p ≠ [] := of_decide_eq_true h2
  have h4 := List.length_pos_iff.mpr h3
  have h5 := bestK_mem h4
  obtain ⟨h6, h7⟩ := List.mem_filter.mp h5
  exact ⟨List.mem_range.mp h1, h6, h7, h4, rfl, hq⟩
theorem hit_len {z : Str} {p : Nat} {k : Str × Str} (h : hitB z p k = true) : p + k.1.length ≤ z.length ∨ k.1.length = 0 := by
  have h := of_decide_eq_true h
  have hl := congrArg List.length h
  rw [List.length_take, List.length_drop] at hl
  have e1 : z.cps.toList.length = z.length := Array.length_toList
  have e2 : k.1.cps.toList.length = k.1.length := Array.length_toList
  omega
theorem bh_len {z : Str} {p : Nat} {k : Str × Str} (h : p + k.1.length ≤ z.length) : (bhS z p k).length + k.1.length = z.length + k.2.length := by
  have e : ∀ s : Str, s.length = s.cps.toList.length := fun s => Array.length_toList.symm
  unfold bhS
  rw [add_len, add_len, e (cutS z none (some (p : Int))), e (cutS z (some ((p + k.1.length : Nat) : Int)) none), cut_to, cut_from, List.length_take, List.length_drop]
  have := e z
  omega
theorem allIn_sub {y a b : Str} (h : allIn y a = true) (hs : ∀ c ∈ b.cps.toList, c ∈ a.cps.toList) : allIn y b = true := by
  unfold allIn at *
  rw [List.all_eq_true] at *
  exact fun c hc => h c (hs c hc)
theorem bh_in {y z : Str} {p : Nat} {k : Str × Str} (h1 : allIn y z = true) (h2 : allIn y k.2 = true) : allIn y (bhS z p k) = true := by
  unfold bhS
  refine allIn_app (allIn_app (allIn_sub h1 fun c hc => ?_) h2) (allIn_sub h1 fun c hc => ?_)
  · rw [cut_to] at hc
    exact List.mem_of_mem_take hc
  · rw [cut_from] at hc
    exact List.mem_of_mem_drop hc
theorem next_less {y : Str} {ps : List (Str × Str)} {z : Str} {p : Nat} {k : Str × Str} (hm : Men y ps) (h : nextK ps z = some (p, k)) : (bhS z p k).length < z.length := by
  obtain ⟨_, h2, h3, _⟩ := next_fit h
  have g := (hm k h2).2
  have l := bh_len (z := z) (p := p) (k := k) ((hit_len h3).resolve_right (by omega))
  omega
/-- done again and again, so often at most -/
def mendN (ps : List (Str × Str)) : Nat → Str → List (Nat × (Str × Str)) × Str
  | 0, z => ([], z)
  | n + 1, z => match nextK ps z with
    | none => ([], z)
    | some (p, k) => ((p, k) :: (mendN ps n (bhS z p k)).1, (mendN ps n (bhS z p k)).2)
theorem mend_none {ps : List (Str × Str)} {z : Str} (h : nextK ps z = none) : ∀ n, mendN ps n z = ([], z)
  | 0 => rfl
  | n + 1 => by
    show (match nextK ps z with | none => ([], z) | some (p, k) => ((p, k) :: (mendN ps n (bhS z p k)).1, (mendN ps n (bhS z p k)).2)) = _
    rw [h]
theorem mend_some {ps : List (Str × Str)} {z : Str} {p : Nat} {k : Str × Str} (h : nextK ps z = some (p, k)) (n : Nat) : mendN ps (n + 1) z = ((p, k) :: (mendN ps n (bhS z p k)).1, (mendN ps n (bhS z p k)).2) := by
  show (match nextK ps z with | none => ([], z) | some (p, k) => ((p, k) :: (mendN ps n (bhS z p k)).1, (mendN ps n (bhS z p k)).2)) = _
  rw [h]
def mend (ps : List (Str × Str)) (z : Str) : List (Nat × (Str × Str)) × Str := mendN ps (z.length + 1) z
/-- on the way: rs is done, now is the text -/
def OnWay (ps : List (Str × Str)) (z : Str) (rs : List (Nat × (Str × Str))) (now : Str) : Prop := ∃ m, now.length < m ∧ mend ps z = (rs ++ (mendN ps m now).1, (mendN ps m now).2)
theorem way_start (ps : List (Str × Str)) (z : Str) : OnWay ps z [] z := ⟨z.length + 1, Nat.lt_succ_self _, rfl⟩
theorem way_step {y : Str} {ps : List (Str × Str)} {z now : Str} {rs : List (Nat × (Str × Str))} {p : Nat} {k : Str × Str} (hm : Men y ps) (w : OnWay ps z rs now) (h : nextK ps now = some (p, k)) : OnWay ps z (rs ++ [(p, k)]) (bhS now p k) := by
  obtain ⟨m, h1, h2⟩ := w
  have l := next_less hm h
  obtain ⟨m, rfl⟩ : ∃ n, m = n + 1 := ⟨m - 1, by omega⟩
  refine ⟨m, by omega, ?_⟩
  rw [h2, mend_some h, List.append_assoc]
  rfl
theorem way_end {ps : List (Str × Str)} {z now : Str} {rs : List (Nat × (Str × Str))} (w : OnWay ps z rs now) (h : nextK ps now = none) : mend ps z = (rs, now) := by
  obtain ⟨m, h1, h2⟩ := w
  rw [h2, mend_none h, List.append_nil]
theorem mend_fix {ps : List (Str × Str)} {z : Str} (h : nextK ps z = none) : mend ps z = ([], z) := mend_none h _
def rowDd (rs : List (Nat × (Str × Str))) : List PyData := rs.map fun r => dD r.1 r.2
theorem imm_rowD (rs : List (Nat × (Str × Str))) : immAll (rowDd rs) = true := immAll_of fun d h => by
  obtain ⟨k, _, rfl⟩ := List.mem_map.mp h
  rfl
end K27

set_option maxHeartbeats 4000000
set_option autoImplicit false
/-! what is a mender; the deed done next. -/
namespace K27
open PySem PySem.Spec PyProof.Rows L2 AsSort AsKit AsMax
open Evl (Ex Ev EvT EvA)
open LamX (ExtN TabB)
open NdefX (TabsN NTab NScope nscope_by NF startF)
abbrev sCheckMender : Stmt := top 27
abbrev sNextDeed : Stmt := top 34
abbrev sMendingOf : Stmt := top 35
abbrev sCheckLM : Stmt := top 36
abbrev sMended : Stmt := top 37
section
variable {P : Program} {w : World} {K : PySem.W.Frag} {mg : Str → Option Value} {base : Heap}
abbrev nCheckMender : List Str := ["letters", "mender", "left", "right"]
theorem sc_check_mender : FnScope nCheckMender ["letters", "mender"] (defScope sCheckMender) := ⟨rfl, rfl, rfl, by decide +kernel, rfl, by decide +kernel, by decide +kernel⟩
/-- letters and a mender -/
def OkM (y : Str) (ps : List (Str × Str)) : Prop := PyData.strOk y = true ∧ y.length ≤ 1000 ∧ isLetS y = true ∧ ps.length ≤ 12 ∧ ps.Nodup ∧ Men y ps
abbrev spCheckMender (K : PySem.W.Frag) : Sp := spP K (fun ds => ∃ y ps, ds = [.str y, .tuple (ps.map kD)] ∧ OkM y ps) non1
theorem c_check_mender (D : Df K mg "check_mender" sCheckMender) (hb : Bl mg) (C1 : Cl P w K mg base 5 "check_kinds" (spCheckKinds K) []) : Cl P w K mg base 6 "check_mender" (spCheckMender K) [] := by
  refine cl_of D sc_check_mender (len_sp fun ds ⟨y, ps, h, _⟩ => by rw [h]; rfl) (fun _ _ _ _ _ _ us hl => match us, hl with | [_, _], _ => rfl) fun f cdv A outer s H vs Q E hr h => ?_
  obtain ⟨ds, hd, ⟨y, ps, rfl, o0, o1, o2, o5, o6, o7⟩, q⟩ := h
  obtain ⟨v, v2, rfl, h0, h1⟩ := dp2 hd
  refine ⟨_, pss_cons (ps_expr (C8.pe_c C1 hr (by decide) (by rfl) (pa_cons (pv 0) (pa_cons (pv 1) pa_nil))))
    (pss_one (ps_if (pt_val (pe_anyL (by rfl) hb (pe_lc (own := [("left", 2), ("right", 3)]) (g := gTup K 2 (gCons (gName 2) (gCons (gName 3) gNil))) rfl sc_check_mender.nd (pi_tup (pv 1)) (blkOk_by (N := nCheckMender) (sc := defScope sCheckMender) (own := [("left", 2), ("right", 3)]) (by decide +kernel))
      (fun _ _ _ _ _ => pg_tup rfl (pgs_cons (pg_name (i := 2) sc_check_mender.nd rfl (.inl rfl) (.inr rfl)) (pgs_cons (pg_name (i := 3) sc_check_mender.nd rfl (.inl rfl) (.inr rfl)) pgs_nil))) (fun _ _ _ _ _ => pts_nil) (fun _ _ _ _ _ => pe_cmpR op_le (pe_lenS hb (pv 2)) (pe_lenS hb (pv 3)) (nomark _))))) pss_never pss_nil)), ?_⟩
  have a0 : At K (start nCheckMender [v, v2]) H 0 (.str y) := ⟨_, rfl, h0⟩
  have a1 : At K (start nCheckMender [v, v2]) H 1 (.tuple (ps.map kD)) := ⟨_, rfl, h1⟩
  refine q_exprD (K := K) (d_call (ds_cons (d_var a0) (ds_cons (d_var a1) ds_nil)) ⟨y, _, rfl, tx_kinds fun p hp => ⟨(o7 p hp).1.1, (o7 p hp).1.2.1⟩, lot_ok o5 o6 fun p hp => (o7 p hp).1⟩) fun H1 e1 => ?_
  have tst : EvD K (tCB (rAny K) (tCons (tLc (iTup K (tVar 1)) (gTup K 2 (gCons (gName 2) (gCons (gName 3) gNil))) tYes (tOp (rI0 fun i j => .bl (decide (i ≤ j))) (tCB rLenTx (tCons (tVar 2) tNil)) (tCB rLenTx (tCons (tVar 3) tNil))) [2, 3]) tNil)) (start nCheckMender [v, v2]) H1 (.bool ((ps.map fun p => decide ((p.1.length : Int) ≤ (p.2.length : Int))).any id)) := by
    refine d_any (d_eqTo (d_lcT (fun _ => true) (fun d => .bool (decide (((pairOf d).1.length : Int) ≤ ((pairOf d).2.length : Int)))) (d_var (a1.mono e1)) (by rw [List.length_map]; omega) (fun d hd _ => rfl) fun d hd x H2 e2 hx k hk => ?_) ?_)
    · obtain ⟨p, hp, rfl⟩ := List.mem_map.mp hd
      have l1 := (o7 p hp).1.1
      have l2 := (o7 p hp).1.2.1
      have l1 : (pairOf (kD p)).1.length ≤ 3 := l1
      have l2 : (pairOf (kD p)).2.length ≤ 1 := l2
      exact g_two hx fun va vb ha hb2 => hk _ rfl (fun H3 e3 Q q => q H3 (Ex.refl H3)) fun _ => d_cmpI (g := fun i j => decide (i ≤ j)) (d_lenS (d_var ⟨_, rfl, ha⟩) (by omega)) (d_lenS (d_var ⟨_, rfl, hb2⟩) (by omega))
    · rw [List.filter_eq_self.mpr fun _ _ => rfl, List.map_map, List.map_map]
      rfl
  have hn : (ps.map fun p => decide ((p.1.length : Int) ≤ (p.2.length : Int))).any id = false := by
    rw [List.any_eq_false]
    intro b hb2
    obtain ⟨p, hp, rfl⟩ := List.mem_map.mp hb2
    have := (o7 p hp).2
    simp only [id, decide_eq_true_eq]
    omega
  rw [hn] at tst
  exact Evl.s_if (t_ofB tst) (fun z => by cases z) fun _ H2 e2 => q .non H2 (e1.trans e2) .non
theorem sc_check_lm : FnScope ["letters", "mender"] ["letters", "mender"] (defScope sCheckLM) := ⟨rfl, rfl, rfl, by decide +kernel, rfl, by decide +kernel, by decide +kernel⟩
theorem c_check_lm (D : Df K mg "check_letters_and_mender" sCheckLM) (C1 : Cl P w K mg base 2 "check_letters" (spCheckLetters K) []) (C2 : Cl P w K mg base 6 "check_mender" (spCheckMender K) []) : Cl P w K mg base 7 "check_letters_and_mender" (spCheckMender K) [] := by
  refine cl_of D sc_check_lm (len_sp fun ds ⟨y, ps, h, _⟩ => by rw [h]; rfl) (fun _ _ _ _ _ _ us hl => match us, hl with | [_, _], _ => rfl) fun f cdv A outer s H vs Q E hr h => ?_
  obtain ⟨ds, hd, ⟨y, ps, rfl, o⟩, q⟩ := h
  obtain ⟨v, v2, rfl, h0, h1⟩ := dp2 hd
  refine ⟨_, pss_cons (ps_expr (C8.pe_c C1 hr (by decide) (by rfl) (pa_cons (pv 0) pa_nil))) (pss_one (ps_expr (C8.pe_c C2 hr (by decide) (by rfl) (pa_cons (pv 0) (pa_cons (pv 1) pa_nil))))), ?_⟩
  have a0 : At K (start ["letters", "mender"] [v, v2]) H 0 (.str y) := ⟨_, rfl, h0⟩
  have a1 : At K (start ["letters", "mender"] [v, v2]) H 1 (.tuple (ps.map kD)) := ⟨_, rfl, h1⟩
  refine q_exprD (K := K) (d_call (ds_cons (d_var a0) ds_nil) ⟨.str y, rfl, fun x e => by cases e; have := o.2.1; omega, o.2.2.1⟩) fun H1 e1 => ?_
  exact s_exprD (K := K) (d_call (ds_cons (d_var (a0.mono e1)) (ds_cons (d_var (a1.mono e1)) ds_nil)) ⟨y, ps, rfl, o⟩) fun H2 e2 => q .non H2 (e1.trans e2) .non
/-- the lambda of next_deed -/
def lamNx (st : Stmt) : Expr := match defBody st with
  | .For _ _ (_ :: .If _ (.Assign _ (.Call _ _ (⟨_, e, _⟩ :: _) _) _ :: _) _ _ :: _) _ _ :: _ => e
  | _ => .Constant .none 0 ⟨0, 0, 0, 0⟩
abbrev lamN : Expr := lamNx sNextDeed
abbrev lamQN : Str := "next_deed.<locals>.<lambda>"
def lamFN (c' : Addr) : NF := ⟨"<lambda>", lamQN, lamPar lamN, [], lamScope lamN, [], c'⟩
theorem sc_lamN : NScope ["kind"] ["kind"] [] (lamScope lamN) := nscope_by (by decide +kernel)
def lenD : PyData → PyData
  | .tuple [.str l, .str _] => .int l.length
  | _ => .none
theorem lamN_ok (hb : Bl mg) (f c' : Addr) : AsLam.LOk P w K mg base C8.CX0 1 f (lamFN c') (lamBody lamN) ["kind"] [] (fun _ => spP K preK (one lenD)) := by
  refine AsLam.lok_of sc_lamN (fun pm ctv us hl => match us, hl with | [_], _ => rfl) (fun _ => len_sp fun ds ⟨p, h, _⟩ => by rw [h]; rfl) fun A outer s H vs ws Q E hr hw h => ?_
  obtain ⟨ds, hd, ⟨p, rfl, h1, h2⟩, q⟩ := h
  obtain ⟨v, rfl, h0⟩ := dp1 hd
  obtain rfl := List.eq_nil_of_length_eq_zero hw
  refine ⟨_, pe_lenS hb (pe_ix ix_tup (pv 0) pe_int (fun _ _ => rfl)), ?_⟩
  have c0 : At K (startF ["kind"] [v] []) H 0 (.tuple [.str p.1, .str p.2]) := ⟨_, rfl, h0⟩
  exact d_lenS (d_ixT (i := 0) (d_var c0) (d_int (i := 0)) rfl) (by omega) H (Ex.refl H) Q q
abbrev nNextDeed : List Str := ["mender", "text", "place", "kinds", "kind", "left", "right"]
theorem sc_next_deed : FnScope nNextDeed ["mender", "text"] (defScope sNextDeed) := ⟨rfl, rfl, rfl, by decide +kernel, rfl, by decide +kernel, by decide +kernel⟩
def spNextDeed (K : PySem.W.Frag) (Ts : List NTab) : Sp := fun vs H Q _ => ∃ (v : V) (ps : List (Str × Str)) (z : Str), vs = [v, .str z] ∧ Dp K H v (.tuple (ps.map kD)) ∧ z.length ≤ 400 ∧ ps.length ≤ 60 ∧ (∀ p ∈ ps, p.1.length ≤ 40 ∧ p.2.length ≤ 40) ∧ TabsN Ts H ∧
  ∀ (u : V) (H' : Hp), ExtN H H' → TabsN Ts H' → Dp K H' u (nextD ps z) → Q u H'
theorem find_range {p : Nat → Bool} : ∀ {n i : Nat}, i < n → p i = true → (∀ j, j < i → p j = false) → (List.range n).find? p = some i := fun {n i} h1 h2 h3 => by
  refine List.find?_eq_some_iff_getElem.mpr ⟨h2, i, by rw [List.length_range]; exact h1, by rw [List.getElem_range], fun j hj => ?_⟩
  rw [List.getElem_range, h3 j hj]
  rfl
theorem lens_dp (ks : List (Str × Str)) : ((ks.map kD).map fun d => one lenD [d]) = (lensK ks).map PyData.int := by
  unfold lensK
  rw [List.map_map, List.map_map]
  rfl
theorem c_next_deed {c T : Addr} {Ts : List NTab} (hTs : (T, fun _ _ => lamQN) ∈ Ts) (huT : ∀ p ∈ Ts, p.1 = T → p.2 = fun _ _ => lamQN) (D : Dfc K mg "next_deed" sNextDeed c) (hb : Bl mg) (hmx : mg "max" = none) (TB : TabB base mg c T) : Cl P w K mg base 4 "next_deed" (spNextDeed K Ts) [] := by
  refine cl_ofC D sc_next_deed (fun vs H Q E ⟨v, ps, z, h, _⟩ => by rw [h]; rfl) (fun _ _ _ _ _ _ us hl => match us, hl with | [_, _], _ => rfl) fun f A outer s H vs Q E hr h => ?_
  obtain ⟨v, ps, z, rfl, h0, hz, hp, hps, hT, q⟩ := h
  refine ⟨_, pss_cons (ps_for PassesOwn.never rfl (pi_range1 (by rfl) (hb _ (by decide +kernel)) (pa_cons (pe_lenS hb (pv 1)) pa_nil)) (pg_name (i := 2) sc_next_deed.nd rfl (.inr rfl))
      (pss_cons (ps_setLcn (i := 3) 4 sc_next_deed.nd (pi_tup (pv 0)) (fun _ _ _ _ _ => pts_one (pt_cmpR op_eq (pe_slice sl_str (pv 1) (po_some (pv 2)) (po_some (pe_op op_add (pv 2) (pe_lenS hb (pe_ix (r := rIxT K) ix_tup (pv 4) pe_int (fun _ _ => rfl)))))) (pe_ix (r := rIxT K) ix_tup (pv 4) pe_int (fun _ _ => rfl)) (nomark _))) (fun _ _ _ _ _ => pv 4) (fun _ _ _ _ _ => pg_name sc_next_deed.nd rfl (.inl rfl)) (blkOk_by (N := nNextDeed) (sc := defScope sNextDeed) (own := [("kind", 4)]) (by decide +kernel)) rfl rfl rfl (sw_true rfl rfl rfl (by decide +kernel)))
      (pss_one (ps_if (pt_cmpR op_gt (pe_lenQ hb (pv 3)) pe_int (nomark _))
        (pss_cons (ps_asg (pe_callBK (cr_maxLam (mk := lamFN) (e := lamBody lamN) (fun f c' => lamN_ok hb f c') (hr.mono (by decide)) (fun _ => rfl) (fun _ => rfl)) (by rfl) hmx (by decide +kernel) (pa_cons (pv 3) pa_nil)
            (pk_cons (AsLam.pe_lam (T := Ts) (nm := fun _ _ => lamQN) TB rfl hTs rfl huT (fun y hy e => nomatch (sc_lamN.free y hy e))) pk_nil)) (pg_tup rfl (pgs_cons (pg_name (i := 5) sc_next_deed.nd rfl (.inl rfl)) (pgs_cons (pg_name (i := 6) sc_next_deed.nd rfl (.inl rfl)) pgs_nil))))
        (pss_one (ps_ret (pe_tup (pa_cons (pv 2) (pa_cons (pv 5) (pa_cons (pv 6) pa_nil))))))) pss_nil))))
    (pss_one (ps_ret pe_non)), ?_⟩
  have hz2 : z.cps.toList.length = z.length := Array.length_toList
  have a1 : ∀ (x2 x3 x4 x5 x6 : Option V) (H' : Hp), At K [some v, some (.str z), x2, x3, x4, x5, x6] H' 1 (.str z) := fun _ _ _ _ _ _ => ⟨_, rfl, .str z⟩
  refine Evl.q_forR1 (n := (z.length : Int)) (ds_ev (K := K) (ds_cons (d_lenS (d_var (a1 _ _ _ _ _ _)) (by omega)) ds_nil)) (by omega)
    (fun i σ' H' => ∃ x2 x3 x4 x5 x6, σ' = [some v, some (.str z), x2, x3, x4, x5, x6] ∧ Ex H H' ∧ ∀ j, j < i → fitsAt ps z j = [])
    (fun H1 e1 => ⟨_, _, _, _, _, rfl, e1, fun j hj => absurd hj (Nat.not_lt_zero _)⟩) (fun i σ' H' hi hW => ?_) fun σ' H' hW => ?_
  · obtain ⟨x2, x3, x4, x5, x6, rfl, eN, hno⟩ := hW
    have hi2 : i < z.length := by omega
    have hv : Dp K H' v (.tuple (ps.map kD)) := dp_ex eN h0
    refine AsKit.q_asg (K := K) (d_eqTo (d_lcT (fun d => decide (cutS z (some (i : Int)) (some ((i + (pairOf d).1.length : Nat) : Int)) = (pairOf d).1)) id (d_var ⟨_, rfl, hv⟩) (by rw [List.length_map]; omega) (fun d hd _ => ?_) fun d hd x H2 e2 hx k hk => hk _ rfl (t_ofD (K := K) ?_) fun _ => d_var ⟨_, rfl, hx⟩)
      (congrArg PyData.list (show (((ps.map kD).filter _).map id) = (fitsAt ps z i).map kD from ?_))) fun v3 H1 e1 h3 => ?_
    · obtain ⟨p, _, rfl⟩ := List.mem_map.mp hd
      rfl
    · obtain ⟨p, hp1, rfl⟩ := List.mem_map.mp hd
      have l1 := (hps p hp1).1
      have l2 := d_ixT (i := 0) (ds := [.str p.1, .str p.2]) (d := .str p.1) (d_var (K := K) (σ := (wipe [some v, some (.str z), some (.int (i : Int)), x3, x4, x5, x6] [4]).set 4 (some x)) (H := H2) (i := 4) ⟨_, rfl, hx⟩) (d_int (i := 0)) rfl
      exact d_eqS (d_slS (d_var ⟨_, rfl, .str z⟩) (p_some (d_var ⟨_, rfl, .int _⟩)) (p_some (d_eqTo (d_arI (g := fun i j => i + j) (d_var ⟨_, rfl, .int _⟩) (d_lenS l2 (by omega))) (show PyData.int ((i : Int) + (p.1.length : Int)) = .int ((i + p.1.length : Nat) : Int) by rw [Int.natCast_add]))) (by omega)) l2
    · rw [List.map_id, List.filter_map]
      exact congrArg (List.map kD) (List.filter_congr fun p _ => hit_cut z i p)
    · cases h3 with
      | lst hq hx =>
        rename_i l3 xs3
        have d3 : Dp K H1 (.ref l3) (.list ((fitsAt ps z i).map kD)) := .lst hq hx
        have hfl : (fitsAt ps z i).length ≤ ps.length := List.length_filter_le _ _
        refine Evl.s_if (b := decide ((0 : Int) < (((fitsAt ps z i).map kD).length : Int))) (t_ofD (K := K) (d_cmpI (g := fun i j => decide (j < i)) (d_lenL (d_var ⟨_, rfl, d3⟩)) d_int)) (fun hb1 H2 e2 => ?_) fun hb1 H2 e2 => ?_
        · have hpos : 0 < (fitsAt ps z i).length := by
            have := of_decide_eq_true hb1
            rw [List.length_map] at this
            omega
          have hT2 : TabsN Ts H2 := ((hT.ext eN).ext e1).ext e2
          refine ⟨.ref l3, rfl, hT2, fun fl cl G n1 _ t3 _ n5 n6 => ?_⟩
          have d4 : Dp K G (.ref l3) (.list ((fitsAt ps z i).map kD)) := dp_extN n1 (dp_ex e2 d3)
          cases d4 with
          | lst hq4 hx4 =>
            refine ⟨l3, fl, cl, _, _, lensK (fitsAt ps z i), rfl, rfl, n5, n6, hq4, hx4, fun d hd => ?_, lens_dp _, by rw [List.length_map]; exact hpos, fun x d G2 hdx e3 hdp => ?_⟩
            · obtain ⟨p, hp1, rfl⟩ := List.mem_map.mp hd
              have z1 := hps p (List.mem_filter.mp hp1).1
              exact ⟨p, rfl, by omega, by omega⟩
            · rw [List.length_map, List.getElem?_map, show (fitsAt ps z i)[argBest (btI (lensK (fitsAt ps z i))) ((fitsAt ps z i).length - 1)]? = some (bestK (fitsAt ps z i)) from bestK_at hpos] at hdx
              have hdx := Option.some.inj hdx
              subst hdx
              refine g_two (K := K) (a := .str (bestK (fitsAt ps z i)).1) (b := .str (bestK (fitsAt ps z i)).2) hdp fun va vb ha hb2 => ?_
              refine AsKit.s_ret (K := K) (d_tup (ds_cons (d_var ⟨_, rfl, .int _⟩) (ds_cons (d_var ⟨_, rfl, ha⟩) (ds_cons (d_var ⟨_, rfl, hb2⟩) ds_nil))) (by show 3 ≤ 100000; decide)) fun u H5 e5 hu => ?_
              have xN : ExtN H H5 := (extN_ex eN).trans ((extN_ex e1).trans ((extN_ex e2).trans (n1.trans ((extN_ex e3).trans (extN_ex e5)))))
              refine q u H5 xN ((t3.ext e3).ext e5) ?_
              have pl : placeOf ps z = some i := by
                refine find_range hi2 (decide_eq_true (List.length_pos_iff.mp hpos)) fun j hj => ?_
                exact decide_eq_false fun hn => hn (hno j hj)
              unfold nextD nextK
              rw [pl]
              exact hu
        · refine ⟨_, _, _, _, _, rfl, (eN.trans e1).trans e2, fun j hj => ?_⟩
          rcases Nat.lt_or_eq_of_le (Nat.le_of_lt_succ hj) with hj | rfl
          · exact hno j hj
          · have := of_decide_eq_false hb1
            rw [List.length_map] at this
            exact List.length_eq_zero_iff.mp (by omega)
  · obtain ⟨x2, x3, x4, x5, x6, rfl, eN, hno⟩ := hW
    have en : ((z.length : Int)).toNat = z.length := by omega
    rw [en] at hno
    refine q .non H' (extN_ex eN) (hT.ext eN) ?_
    have pl : placeOf ps z = none := by
      refine List.find?_eq_none.mpr fun j hj => ?_
      have := hno j (List.mem_range.mp hj)
      rw [decide_eq_true_eq]
      exact fun hn => hn this
    unfold nextD nextK
    rw [pl]
    exact .non
end
end K27

set_option maxHeartbeats 4000000
set_option autoImplicit false
/-! mended, mending. -/
namespace K27
open PySem PySem.Spec PyProof.Rows L2 AsSort AsKit AsMax
open Evl (Ex Ev EvT EvA)
open LamX (ExtN TabB)
open NdefX (TabsN NTab NScope nscope_by NF startF)
section
variable {P : Program} {w : World} {K : PySem.W.Frag} {mg : Str → Option Value} {base : Heap}
theorem tabs_lst {Ts : List NTab} {H : Hp} {l : Addr} {xs : List V} {o : HO} (h : H l = some (.lst xs)) (t : TabsN Ts H) : TabsN Ts (upd H l o) := fun p hp => by
  obtain ⟨ps, t1, t2, t3⟩ := t p hp
  refine ⟨ps, (upd_ne (fun z => by rw [z, h] at t1; cases t1)).trans t1, t2, fun pos cv hc => ?_⟩
  obtain ⟨c, e1, e2⟩ := t3 pos cv hc
  refine ⟨c, e1, (upd_ne (fun z => ?_)).trans e2⟩
  rw [z, h] at e2
  have e3 := Option.some.inj e2
  unfold LamX.CodeO at e3
  cases e3
theorem extN_mut {H H' : Hp} {l : Addr} {o : HO} (e : ExtN H H') (n : H l = none) : ExtN H (upd H' l o) := fun b u hb nt => (upd_ne (fun z => by rw [z, n] at hb; cases hb)).trans (e b u hb nt)
theorem imm_nextD (ps : List (Str × Str)) (z : Str) : imm (nextD ps z) = true := by
  unfold nextD
  cases nextK ps z with
  | none => rfl
  | some q => rfl
abbrev nMendingOf : List Str := ["mender", "text", "row", "now", "deed"]
theorem sc_mending_of : FnScope nMendingOf ["mender", "text"] (defScope sMendingOf) := ⟨rfl, rfl, rfl, by decide +kernel, rfl, by decide +kernel, by decide +kernel⟩
def spMendingOf (K : PySem.W.Frag) (Ts : List NTab) : Sp := fun vs H Q _ => ∃ (v : V) (y : Str) (ps : List (Str × Str)) (z : Str), vs = [v, .str z] ∧ Dp K H v (.tuple (ps.map kD)) ∧ z.length ≤ 400 ∧ ps.length ≤ 60 ∧ Men y ps ∧ TabsN Ts H ∧
  ∀ (u : V) (H' : Hp), ExtN H H' → TabsN Ts H' → Dp K H' u (.tuple [.tuple (rowDd (mend ps z).1), .str (mend ps z).2]) → Q u H'
/-- on the way, as the program holds it -/
def MoI (K : PySem.W.Frag) (Ts : List NTab) (H : Hp) (v : V) (z : Str) (ps : List (Str × Str)) (l : Addr) (m : Nat) (σ' : L2.St) (H' : Hp) : Prop := ∃ (now : Str) (rs : List (Nat × (Str × Str))) (acc : List V) (u : V), σ' = [some v, some (.str z), some (.ref l), some (.str now), some u] ∧ m = now.length ∧ now.length ≤ z.length ∧ ExtN H H' ∧ TabsN Ts H' ∧ H' l = some (.lst acc) ∧ DpAll K H' acc (rowDd rs) ∧ Dp K H' u (nextD ps now) ∧ OnWay ps z rs now ∧ rs.length + now.length ≤ z.length
theorem c_mending_of {Ts : List NTab} (D : Df K mg "mending_of" sMendingOf) (hb : Bl mg) (C1 : Cl P w K mg base 4 "next_deed" (spNextDeed K Ts) []) (C2 : Cl P w K mg base 1 "text_behind" (spTextBehind K) []) : Cl P w K mg base 5 "mending_of" (spMendingOf K Ts) [] := by
  refine cl_of D sc_mending_of (fun vs H Q E ⟨v, y, ps, z, h, _⟩ => by rw [h]; rfl) (fun _ _ _ _ _ _ us hl => match us, hl with | [_, _], _ => rfl) fun f cdv A outer s H vs Q E hr h => ?_
  obtain ⟨v, y, ps, z, rfl, h0, hz, hp, hm, hT, q⟩ := h
  refine ⟨_, pss_cons (ps_set (i := 2) sc_mending_of.nd rfl (.inl rfl) (pe_lst pa_nil))
    (pss_cons (ps_set (i := 3) sc_mending_of.nd rfl (.inl rfl) (pv 1))
    (pss_cons (ps_set (i := 4) sc_mending_of.nd rfl (.inl rfl) (C8.pe_c C1 hr (by decide) (by rfl) (pa_cons (pv 0) (pa_cons (pv 3) pa_nil))))
    (pss_cons (ps_while PassesOwn.never (pt_cmp (pc_notN (pv 4)))
      (pss_cons (ps_expr (pe_bm PySem.F.plainAttrs_list PySem.F.slot_list_append PySem.F.type_list_append mt_append (pv 2) (pa_cons (pv 4) pa_nil)))
      (pss_cons (ps_set (i := 3) sc_mending_of.nd rfl (.inl rfl) (C8.pe_c C2 hr (by decide) (by rfl) (pa_cons (pv 3) (pa_cons (pv 4) pa_nil))))
      (pss_one (ps_set (i := 4) sc_mending_of.nd rfl (.inl rfl) (C8.pe_c C1 hr (by decide) (by rfl) (pa_cons (pv 0) (pa_cons (pv 3) pa_nil))))))))
    (pss_one (ps_ret (pe_tup (pa_cons (pe_tupQ hb (pv 2)) (pa_cons (pv 3) pa_nil)))))))), ?_⟩
  have lens : ∀ p ∈ ps, p.1.length ≤ 40 ∧ p.2.length ≤ 40 := fun p hp => by
    have := (hm p hp).1
    exact ⟨by have := this.1; omega, by have := this.2.1; omega⟩
  refine ⟨Evl.sz_of (Nat.zero_le _), fun l nl => ?_⟩
  refine ⟨.str z, rfl, v, rfl, .str z, rfl, v, ps, z, rfl, dp_ex (Ex.new nl) h0, hz, hp, lens, hT.ext (Ex.new nl), fun u H1 e1 t1 hu => ?_⟩
  have e01 : ExtN H H1 := (extN_ex (Ex.new nl)).trans e1
  have hl1 : H1 l = some (.lst []) := e1 _ _ upd_same (fun ps z => nomatch z)
  refine Evl.q_while (MoI K Ts H v z ps l)
    z.length ⟨z, [], [], u, rfl, rfl, Nat.le_refl _, e01, t1, hl1, .nil, hu, way_start ps z, by simp⟩ fun m σ' H' hw => ?_
  obtain ⟨now, rs, acc, u, rfl, rfl, hn, eN, tN, hl, hacc, hu, hway, hrs⟩ := hw
  have hv : Dp K H' v (.tuple (ps.map kD)) := dp_extN eN h0
  cases hk : nextK ps now with
  | none =>
    have ed : nextD ps now = .none := by unfold nextD; rw [hk]
    rw [ed] at hu
    cases hu
    refine ⟨false, fun H1 a Q q => ⟨.non, rfl, false, by simp, q H1 (Ex.refl _)⟩, (fun z => nomatch z), fun _ H2 e2 => ?_⟩
    have a2 : At K [some v, some (.str z), some (.ref l), some (.str now), some .non] H2 2 (.list (rowDd rs)) := ⟨_, rfl, .lst (Evl.sq_of (e2 _ _ hl)) (dpAll_ex e2 hacc)⟩
    refine AsKit.s_ret (K := K) (d_tup (ds_cons (d_tupOf (d_var a2)) (ds_cons (d_var (i := 3) ⟨_, rfl, .str now⟩) ds_nil)) (by show 2 ≤ 100000; decide)) fun r H3 e3 hr3 => ?_
    refine q r H3 (eN.trans ((extN_ex e2).trans (extN_ex e3))) ((tN.ext e2).ext e3) ?_
    rw [way_end hway hk]
    exact hr3
  | some pk =>
    obtain ⟨p, k⟩ := pk
    have ed : nextD ps now = dD p k := by unfold nextD; rw [hk]
    rw [ed] at hu
    obtain ⟨f1, f2, f3, f4, f5, f6⟩ := next_fit hk
    have hless := next_less hm hk
    have hl12 := lens k f2
    have hu' := hu
    unfold dD at hu'
    cases hu' with
    | tup hs hx =>
      rename_i a xs
      refine ⟨true, fun H1 e Q q => ⟨.ref a, rfl, true, by simp, q H1 (Ex.refl _)⟩, fun _ H1 e1 => ?_, (fun z => nomatch z)⟩
      have hl' : H1 l = some (.lst acc) := e1 _ _ hl
      have acn : acc.length ≤ 400 := by
        rw [dpAll_len hacc]
        unfold rowDd
        rw [List.length_map]
        omega
      refine ⟨fun σ2 H2 => ∃ m', m' < now.length ∧ MoI K Ts H v z ps l m' σ2 H2, fun _ _ h => h, .ref l, rfl, .inl ⟨rfl, acc, Evl.sq_of hl'⟩, .ref a, rfl, l, acc, .ref a, rfl, rfl, hl', Evl.sz_lt (by omega), ?_⟩
      have ex1 : ExtN H (upd H1 l (.lst (acc ++ [.ref a]))) := extN_mut (eN.trans (extN_ex e1)) nl
      have hacc2 : DpAll K (upd H1 l (.lst (acc ++ [.ref a]))) (acc ++ [.ref a]) (rowDd (rs ++ [(p, k)])) := by
        unfold rowDd
        rw [List.map_append]
        exact dpAll_snoc (dp_tu (tu_lst hl') rfl (dp_ex e1 hu)) (dpAll_tu (tu_lst hl') (imm_rowD rs) (dpAll_ex e1 hacc))
      have hu2 : Dp K (upd H1 l (.lst (acc ++ [.ref a]))) (.ref a) (dD p k) := dp_tu (tu_lst hl') rfl (dp_ex e1 hu)
      have t2 : TabsN Ts (upd H1 l (.lst (acc ++ [.ref a]))) := tabs_lst hl' (tN.ext e1)
      refine AsKit.q_asg (K := K) (d_call (ds_cons (d_var (i := 3) ⟨_, rfl, .str now⟩) (ds_cons (d_var (i := 4) ⟨_, rfl, hu2⟩) ds_nil)) ⟨now, p, k, rfl, by omega, hl12.1, hl12.2⟩) fun v3 H3 e3 h3 => ?_
      cases h3
      have x3 : ExtN H H3 := ex1.trans (extN_ex e3)
      refine ⟨v, rfl, .str _, rfl, v, ps, bhS now p k, rfl, dp_extN x3 h0, by omega, hp, lens, t2.ext e3, fun u4 H4 e4 t4 hu4 => ?_⟩
      exact ⟨(bhS now p k).length, hless, bhS now p k, rs ++ [(p, k)], acc ++ [.ref a], u4, rfl, rfl, by omega, x3.trans e4, t4, e4 _ _ (e3 _ _ upd_same) (fun ps z => nomatch z), dpAll_extN e4 (dpAll_ex e3 hacc2), hu4, way_step hm hway hk, by rw [List.length_append]; show rs.length + 1 + _ ≤ _; omega⟩
abbrev nMended : List Str := ["letters", "mender", "text", "_", "end"]
theorem sc_mended : FnScope nMended ["letters", "mender", "text"] (defScope sMended) := ⟨rfl, rfl, rfl, by decide +kernel, rfl, by decide +kernel, by decide +kernel⟩
abbrev nMending : List Str := ["letters", "mender", "text", "row", "_"]
def spMend (K : PySem.W.Frag) (Ts : List NTab) (g : List (Nat × (Str × Str)) × Str → PyData) : Sp := fun vs H Q _ => ∃ (v : V) (y : Str) (ps : List (Str × Str)) (z : Str), vs = [.str y, v, .str z] ∧ Dp K H v (.tuple (ps.map kD)) ∧ OkM y ps ∧ z.length ≤ 40 ∧ allIn y z = true ∧ TabsN Ts H ∧
  ∀ (u : V) (H' : Hp), ExtN H H' → TabsN Ts H' → Dp K H' u (g (mend ps z)) → Q u H'
abbrev endD (r : List (Nat × (Str × Str)) × Str) : PyData := .str r.2
abbrev rowDD (r : List (Nat × (Str × Str)) × Str) : PyData := .tuple (rowDd r.1)
theorem c_mended {Ts : List NTab} (D : Df K mg "mended" sMended) (C1 : Cl P w K mg base 7 "check_letters_and_mender" (spCheckMender K) []) (C2 : Cl P w K mg base 3 "check_text" (spCheckText K) []) (C3 : Cl P w K mg base 5 "mending_of" (spMendingOf K Ts) []) : Cl P w K mg base 8 "mended" (spMend K Ts endD) [] := by
  refine cl_of D sc_mended (fun vs H Q E ⟨v, y, ps, z, h, _⟩ => by rw [h]; rfl) (fun _ _ _ _ _ _ us hl => match us, hl with | [_, _, _], _ => rfl) fun f cdv A outer s H vs Q E hr h => ?_
  obtain ⟨v, y, ps, z, rfl, h0, ok, hz, hin, hT, q⟩ := h
  refine ⟨_, pss_cons (ps_expr (C8.pe_c C1 hr (by decide) (by rfl) (pa_cons (pv 0) (pa_cons (pv 1) pa_nil))))
    (pss_cons (ps_expr (C8.pe_c C2 hr (by decide) (by rfl) (pa_cons (pv 0) (pa_cons (pv 2) pa_nil))))
    (pss_cons (ps_asg (C8.pe_c C3 hr (by decide) (by rfl) (pa_cons (pv 1) (pa_cons (pv 2) pa_nil))) (pg_tup rfl (pgs_cons (pg_name (i := 3) sc_mended.nd rfl (.inl rfl)) (pgs_cons (pg_name (i := 4) sc_mended.nd rfl (.inl rfl)) pgs_nil))))
    (pss_one (ps_ret (pv 4))))), ?_⟩
  have a0 : At K (start nMended [.str y, v, .str z]) H 0 (.str y) := ⟨_, rfl, .str y⟩
  have a1 : At K (start nMended [.str y, v, .str z]) H 1 (.tuple (ps.map kD)) := ⟨_, rfl, h0⟩
  have a2 : At K (start nMended [.str y, v, .str z]) H 2 (.str z) := ⟨_, rfl, .str z⟩
  refine q_exprD (K := K) (d_call (ds_cons (d_var a0) (ds_cons (d_var a1) ds_nil)) ⟨y, ps, rfl, ok⟩) fun H1 e1 => ?_
  refine q_exprD (K := K) (d_call (ds_cons (d_var (a0.mono e1)) (ds_cons (d_var (a2.mono e1)) ds_nil)) ⟨y, .str z, rfl, fun x e => by cases e; omega, ?_⟩) fun H2 e2 => ?_
  · show withinS y z 40 = true
    unfold withinS
    rw [hin, decide_eq_true (by omega : (z.length : Int) ≤ 40)]
    rfl
  refine ⟨v, rfl, .str z, rfl, v, y, ps, z, rfl, dp_ex (e1.trans e2) h0, by omega, by have := ok.2.2.2.1; omega, ok.2.2.2.2.2, (hT.ext e1).ext e2, fun u H3 e3 t3 hu => ?_⟩
  refine g_two (K := K) hu fun va vb ha hb2 => ?_
  refine ⟨vb, rfl, q vb H3 ((extN_ex (e1.trans e2)).trans e3) t3 hb2⟩
end
end K27

set_option maxHeartbeats 4000000
set_option autoImplicit false
/-! min(xs, key=f), f a def of the program whose promise is data. -/
namespace AsMin
open PySem PySem.Spec PyProof.Rows L2 LamX NdefX AsSort AsMax
open Evl (Ex)
section
variable {X : Cx} {pins : List (Addr × Obj)} {σ : L2.St} {H : Hp} {s : Shared}
/-- f gives the i-th item its i-th data, from wherever it is called one call deeper; what nobody knows stays -/
def KeysD (X : Cx) (f : Value) (H : Hp) (xs : List V) (kz : List PyData) : Prop :=
  ∀ (pins : List (Addr × Obj)) (σ : L2.St) (G : Hp) (z : Shared) (i : Nat) (x : V) (u : Value) (d : PyData), Inv X pins σ G z → Ex H G → xs[i]? = some x → kz[i]? = some d → RelV x u →
    wpAny (model X.prog X.w) X.A.in1 (call f [u]) (fun u' z' => ∃ v G', Inv X pins σ G' z' ∧ RelV v u' ∧ Ex G G' ∧ Dp X.K G' v d ∧ ∀ b o, z.heap.get? b = some o → G b = none → b ∉ X.fs → b ≠ X.env.locals → z'.heap.get? b = some o ∧ G' b = none) (fun _ _ => False) z
/-- the i-th data is less than the j-th -/
def btD (kz : List PyData) (i j : Nat) : Bool := PySem.W.dataLt (kz.getD i .none) (kz.getD j .none)
theorem getD_of {kz : List PyData} {i : Nat} {d : PyData} (h : kz[i]? = some d) : kz.getD i .none = d := by
  rw [List.getD_eq_getElem?_getD, h]
  rfl
theorem btD_of {kz : List PyData} {i j : Nat} {a b : PyData} (h1 : kz[i]? = some a) (h2 : kz[j]? = some b) : PySem.W.dataLt a b = btD kz i j := by
  unfold btD
  rw [getD_of h1, getD_of h2]
variable {it S l f : Addr} {xs : List V} {kz : List PyData} {R : Result → Shared → Prop}
theorem turn (hh : X.A.handled = none) (hs : SqL X.K H l xs) (hk : KeysD X (.ref f) H xs kz) (hl : kz.length = xs.length) (hu : ∀ d ∈ kz, d ≠ .none ∧ X.A.in1.units + d.depth < cLine) (ha : PySem.W.AllAlike kz) (hne : it ≠ S) (hlt : l ≠ it) (hlS : l ≠ S) (fit : FpOk X pins H it) (fS : FpOk X pins H S)
    (hR : ∀ (v : Value) (z : Shared) (x : V) (G : Hp), xs[argBest (btD kz) (xs.length - 1)]? = some x → RelV x v → Inv X pins σ G z → Ex H G → R (.ok (.ret v)) z) :
    ∀ (k j : Nat) (z : Shared) (G : Hp) (ub kb : Value) (xb vk : V) (d : PyData) (c : Nat), xs.length - (j + 1) = k → j + 1 ≤ xs.length → Inv X pins σ G z → Ex H G → G it = none → G S = none → z.heap.IsListIter it l (j + 1) →
      z.heap.get? S = some { cls := .type "list", dict := none, data := .seq #[ub, kb] c, slots := #[] } → xs[argBest (btD kz) j]? = some xb → RelV xb ub → kz[argBest (btD kz) j]? = some d → RelV vk kb → Dp X.K G vk d →
      codeAny (model X.prog X.w) X.A (.builtin "min.loop" ⟨[.ref it, .ref f, .ref S], []⟩) R z := by
  have nm : (toString "min" ++ toString ".loop" : String) = "min.loop" := by decide
  intro k
  induction k with
  | zero =>
    intro j z G ub kb xb vk d c h1 h2 J e n1 n2 hit hS hx rx hd rk dp
    obtain ⟨its, r, ⟨o, n, ho, hc, hsl, hdt⟩, hz⟩ := J.list (Evl.ex_l e hs)
    have hlen : its.length = xs.length := r.length.symm
    refine codeAny_builtin PySem.F.entry_min_loop ?_
    rw [Around.under_plainId PySem.F.plain_min_loop _]
    show wpAny (model X.prog X.w) X.A.in1 (seqItems? (.ref S) >>= _) _ _ z
    refine wpAny_bind (wpAny_seqItems hS rfl ?_)
    show wpAny (model X.prog X.w) X.A.in1 (tryCatch (pyNext (.ref it)) _ >>= _) _ _ z
    refine wpAny_bind (wpAny_tryCatch (wpAny_pyNext_list_end hh hit ⟨o, ho, hc, n, hdt⟩ (by rw [List.getElem?_toArray]; exact List.getElem?_eq_none (by omega)) fun h' eb => ?_))
    have hS' := eb S _ hne.symm hS
    show wpAny (model X.prog X.w) X.A.in1 (updateSeq S (fun _ => #[]) >>= _) _ _ _
    refine wpAny_bind (wpAny_updateSeq hS' rfl (wpAny_bind (wpAny_letGo (wpAny_pure ?_))))
    have J2 : Inv X pins σ G { z with heap := h'.update S (Obj.mapSeq fun _ => (#[] : Array Value)) } := J.turnedL (t' := z.toks) (ch := [it, S]) (fun b o hb q => (Heap.get?_update_ne _ _ _ _ (fun w => hb (by simp [w]))).trans (eb b o (fun w => hb (by simp [w])) q)) (fun b hb => by
      rcases List.mem_cons.mp hb with rfl | hb
      · exact fp_to fit n1
      · rw [List.mem_singleton.mp hb]
        exact fp_to fS n2)
    have ej : j = xs.length - 1 := by omega
    exact hR ub _ xb G (by rw [← ej]; exact hx) rx J2 e
  | succ k ih =>
    intro j z G ub kb xb vk d c h1 h2 J e n1 n2 hit hS hx rx hd rk dp
    have hj : j + 1 < xs.length := by omega
    obtain ⟨its, r, ⟨o, n, ho, hc, hsl, hdt⟩, hz⟩ := J.list (Evl.ex_l e hs)
    obtain ⟨u, hu1, ru⟩ := r.get (List.getElem?_eq_getElem hj)
    obtain ⟨d2, hd2⟩ : ∃ d2, kz[j + 1]? = some d2 := ⟨_, List.getElem?_eq_getElem (by omega)⟩
    refine codeAny_builtin PySem.F.entry_min_loop ?_
    rw [Around.under_plainId PySem.F.plain_min_loop _]
    show wpAny (model X.prog X.w) X.A.in1 (seqItems? (.ref S) >>= _) _ _ z
    refine wpAny_bind (wpAny_seqItems hS rfl ?_)
    show wpAny (model X.prog X.w) X.A.in1 (tryCatch (pyNext (.ref it)) _ >>= _) _ _ z
    refine wpAny_bind (wpAny_tryCatch (wpAny_pyNext_list_item hit ⟨o, ho, hc, n, hdt⟩ (x := u) (by rw [List.getElem?_toArray]; exact hu1) fun h' hit' sb => ?_))
    have hS' := (sb.2 S hne.symm).trans hS
    have J1 : Inv X pins σ G { z with heap := h' } := J.turnedL (t' := z.toks) (ch := [it]) (fun b o hb q => (sb.2 b (fun w => hb (by rw [w]; exact List.mem_singleton.mpr rfl))).trans q) (fun b hb => by rw [List.mem_singleton.mp hb]; exact fp_to fit n1)
    show wpAny (model X.prog X.w) X.A.in1 (tryCatch (holding [u] (call (.ref f) [u])) _ >>= _) _ _ _
    refine wpAny_bind (wpAny_tryCatch (wpAny_holding (wpAny_mono (hk pins σ G _ (j + 1) _ u d2 J1 e (List.getElem?_eq_getElem hj) hd2 ru) (fun u' z' hq => ?_) fun _ _ hF => hF.elim)))
    obtain ⟨v', G', J', rv', e', dp', kk⟩ := hq
    have e2 : Ex H G' := e.trans e'
    obtain ⟨o1, a1, a2, a3⟩ := hit'
    have q1 := kk it _ a1 n1 fit.2.2.1 fit.2.1
    have q2 := kk S _ hS' n2 fS.2.2.1 fS.2.1
    have dpb : Dp X.K G' vk d := AsSort.dp_ex e' dp
    obtain ⟨as1, rd1⟩ := Dp.reads J' d2 v' u' dp' rv'
    obtain ⟨as2, rd2⟩ := Dp.reads J' d vk kb dpb rk
    have m2 := List.mem_of_getElem? hd2
    have m1 := List.mem_of_getElem? hd
    have un := hu d2 m2
    show wpAny (model X.prog X.w) X.A.in1 (tryCatch (holding [u, u'] (richCompare .Lt u' kb >>= _)) _ >>= _) _ _ _
    refine wpAny_bind (wpAny_tryCatch (wpAny_holding (wpAny_bind (PySem.W.rcLt_alike (prog := X.prog) (w := X.w) d2 d X.A.in1 z' u' kb as1 as2 rd1 rd2 (ha d2 m2 d m1) un.1 (by have := un.2; omega) _ _ ?_))))
    refine wpAny_bind (wpAny_holding (wpAny_truthy_bool ?_))
    refine wpAny_bind (wpAny_letGo (wpAny_pure ?_))
    have eb : PySem.W.dataLt d2 d = btD kz (j + 1) (argBest (btD kz) j) := btD_of hd2 hd
    have hit2 : z'.heap.IsListIter it l (j + 1 + 1) := ⟨o1, q1.1, a2, a3⟩
    cases hb : PySem.W.dataLt d2 d with
    | true =>
      rw [hb] at eb
      have ab : argBest (btD kz) (j + 1) = j + 1 := by
        show (if btD kz (j + 1) (argBest (btD kz) j) = true then j + 1 else argBest (btD kz) j) = j + 1
        rw [← eb, if_pos rfl]
      simp only [if_true]
      refine wpAny_bind (wpAny_updateSeq q2.1 rfl (wpAny_bind (wpAny_letGo ?_)))
      rw [nm]
      have J2 : Inv X pins σ G' { z' with heap := z'.heap.update S (Obj.mapSeq fun _ => #[u, u']) } := J'.turnedL (t' := z'.toks) (ch := [S]) (fun b o hb q => (Heap.get?_update_ne _ _ _ _ (fun w => hb (by rw [w]; exact List.mem_singleton.mpr rfl))).trans q) (fun b hb => by rw [List.mem_singleton.mp hb]; exact fp_to fS q2.2)
      refine wpAny_pure ⟨plainId_quiet PySem.F.plain_min_loop _, ih (j + 1) _ G' u u' _ v' d2 _ (by omega) hj J2 e2 q1.2 q2.2 ⟨o1, (Heap.get?_update_ne _ _ _ _ hne).trans q1.1, a2, a3⟩ (Heap.get?_update_self _ q2.1 rfl) (by rw [ab]; exact List.getElem?_eq_getElem hj) ru (by rw [ab]; exact hd2) rv' dp'⟩
    | false =>
      rw [hb] at eb
      have ab : argBest (btD kz) (j + 1) = argBest (btD kz) j := by
        show (if btD kz (j + 1) (argBest (btD kz) j) = true then j + 1 else argBest (btD kz) j) = _
        rw [← eb, if_neg (by decide)]
      simp only [Bool.false_eq_true, if_false]
      refine wpAny_bind (wpAny_letGo ?_)
      rw [nm]
      exact wpAny_pure ⟨plainId_quiet PySem.F.plain_min_loop _, ih (j + 1) _ G' ub kb xb vk d c (by omega) hj J' e2 q1.2 q2.2 hit2 q2.1 (by rw [ab]; exact hx) rx (by rw [ab]; exact hd) rk dpb⟩
theorem min_run {Q : VK} (hh : X.A.handled = none) (I : Inv X pins σ H s) (hs : SqL X.K H l xs) (hk : KeysD X (.ref f) H xs kz) (hl : kz.length = xs.length) (hu : ∀ d ∈ kz, d ≠ .none ∧ X.A.in1.units + d.depth < cLine) (ha : PySem.W.AllAlike kz) (hn : 0 < xs.length)
    (q : ∀ x G, xs[argBest (btD kz) (xs.length - 1)]? = some x → Ex H G → Q x G) : wpAny (model X.prog X.w) X.A (call (.builtin "min") [.ref l] [(Str.ofString "key", .ref f)]) (EP X pins σ Q) X.xe s := by
  have nm : (toString "min" ++ toString ".loop" : String) = "min.loop" := by decide
  obtain ⟨its, r, ⟨o, n, ho, hc, hsl, hd⟩, hz⟩ := I.list hs
  refine PyProof.Rows.kmk_tree PySem.F.kind_min PySem.F.plain_min PySem.F.entry_min (PyProof.Rows.kmk_min_key _ _) ?_
  show wpAny (model X.prog X.w) X.A.in1 (Builtin.Builtins.bindParams "min" ["key", "default"] 0 ⟨[], [(Str.ofString "key", .ref f)]⟩ >>= _) _ _ s
  refine wpAny_bind (wpAny_of_eq (show Builtin.Builtins.bindParams "min" ["key", "default"] 0 ⟨[], [(Str.ofString "key", .ref f)]⟩ = pure [some (.ref f), none] from rfl) (wpAny_bind (wpAny_pure (wpAny_bind (wpAny_pyIter_list (items := its.toArray) ⟨o, ho, hc, n, hd⟩ ?_)))))
  obtain ⟨it, eit⟩ : ∃ it, it = s.heap.objs.size := ⟨_, rfl⟩
  rw [← eit]
  obtain ⟨s2, e2⟩ : ∃ s2 : Shared, s2 = { s with heap := s.heap.push { cls := .type "list_iterator", data := .fields #[.ref l, .int 0 0] } } := ⟨_, rfl⟩
  rw [← e2]
  have kp : ∀ b o, s.heap.get? b = some o → s2.heap.get? b = some o := fun b o e => by rw [e2]; exact Heap.get?_push_of_some _ e
  have I2 : Inv X pins σ H s2 := by rw [e2]; exact I.kept (t' := s.toks) (fun b o e => Heap.get?_push_of_some _ e)
  have nit : H it = none := I.hok.fresh (by rw [eit]; exact Nat.le_refl _)
  have hit : s2.heap.get? it = some { cls := .type "list_iterator", data := .fields #[.ref l, .int 0 0] } := by rw [e2, eit]; exact Heap.get?_push_size _ rfl
  have fit : FpOk X pins H it := I.fpOk (by rw [eit]; exact Nat.le_refl _) nit
  have hsz2 : s2.heap.objs.size = it + 1 := by rw [e2, eit]; exact size_push' _ _
  have hlt : l < it := by rw [eit]; exact Heap.lt_size ho
  obtain ⟨S, eS⟩ : ∃ S, S = s2.heap.objs.size := ⟨_, rfl⟩
  have nS : H S = none := I2.hok.fresh (by rw [eS]; exact Nat.le_refl _)
  have fS : FpOk X pins H S := I2.fpOk (by rw [eS]; exact Nat.le_refl _) nS
  have hne : it ≠ S := by rw [eS, hsz2]; exact Nat.ne_of_lt (Nat.lt_succ_self _)
  have hlS : l ≠ S := by rw [eS, hsz2]; exact Nat.ne_of_lt (Nat.lt_succ_of_lt hlt)
  refine wpAny_bind (wpAny_newObj_type ?_)
  rw [← eS]
  obtain ⟨s3, e3⟩ : ∃ s3 : Shared, s3 = { s2 with heap := s2.heap.push { cls := .type "list", data := .seq #[] 0 } } := ⟨_, rfl⟩
  have hS : s3.heap.get? S = some { cls := .type "list", dict := none, data := .seq #[] 0, slots := #[] } := by rw [e3, eS]; exact Heap.get?_push_size _ rfl
  have kp3 : ∀ b o, s2.heap.get? b = some o → s3.heap.get? b = some o := fun b o e => by rw [e3]; exact Heap.get?_push_of_some _ e
  have I3 : Inv X pins σ H s3 := by rw [e3]; exact I2.kept (t' := s2.toks) (fun b o e => Heap.get?_push_of_some _ e)
  rw [nm]
  refine wpAny_pure ⟨plainId_quiet PySem.F.plain_min_loop _, ?_⟩
  show codeAny (model X.prog X.w) X.A (.builtin "min.loop" ⟨[.ref it, .ref f, .ref S], []⟩) _ { s2 with heap := s2.heap.push { cls := .type "list", data := .seq #[] 0 } }
  rw [← e3]
  obtain ⟨its3, r3, ⟨o3, n3, ho3, hc3, hsl3, hdt3⟩, hz3⟩ := I3.list hs
  obtain ⟨u, hu1, ru⟩ := r3.get (List.getElem?_eq_getElem hn)
  obtain ⟨d2, hd2⟩ : ∃ d2, kz[0]? = some d2 := ⟨_, List.getElem?_eq_getElem (by omega)⟩
  refine codeAny_builtin PySem.F.entry_min_loop ?_
  rw [Around.under_plainId PySem.F.plain_min_loop _]
  show wpAny (model X.prog X.w) X.A.in1 (seqItems? (.ref S) >>= _) _ _ s3
  refine wpAny_bind (wpAny_seqItems hS rfl ?_)
  show wpAny (model X.prog X.w) X.A.in1 (tryCatch (pyNext (.ref it)) _ >>= _) _ _ s3
  refine wpAny_bind (wpAny_tryCatch (wpAny_pyNext_list_item (i := 0) ⟨_, kp3 _ _ hit, rfl, rfl⟩ ⟨o3, ho3, hc3, n3, hdt3⟩ (x := u) (by rw [List.getElem?_toArray]; exact hu1) fun h' hit' sb => ?_))
  have hS' := (sb.2 S hne.symm).trans hS
  have J1 : Inv X pins σ H { s3 with heap := h' } := I3.turnedL (t' := s3.toks) (ch := [it]) (fun b o hb q => (sb.2 b (fun w => hb (by rw [w]; exact List.mem_singleton.mpr rfl))).trans q) (fun b hb => by rw [List.mem_singleton.mp hb]; exact fit)
  show wpAny (model X.prog X.w) X.A.in1 (tryCatch (holding [u] (call (.ref f) [u])) _ >>= _) _ _ _
  refine wpAny_bind (wpAny_tryCatch (wpAny_holding (wpAny_mono (hk pins σ H _ 0 _ u d2 J1 (Ex.refl H) (List.getElem?_eq_getElem hn) hd2 ru) (fun u' z' hq => ?_) fun _ _ hF => hF.elim)))
  obtain ⟨v', G', J', rv', e', dp', kk⟩ := hq
  obtain ⟨o1, a1, a2, a3⟩ := hit'
  have q1 := kk it _ a1 nit fit.2.2.1 fit.2.1
  have q2 := kk S _ hS' nS fS.2.2.1 fS.2.1
  show wpAny (model X.prog X.w) X.A.in1 (updateSeq S (fun _ => #[u, u']) >>= _) _ _ _
  refine wpAny_bind (wpAny_updateSeq q2.1 rfl ?_)
  rw [nm]
  have J2 : Inv X pins σ G' { z' with heap := z'.heap.update S (Obj.mapSeq fun _ => #[u, u']) } := J'.turnedL (t' := z'.toks) (ch := [S]) (fun b o hb q => (Heap.get?_update_ne _ _ _ _ (fun w => hb (by rw [w]; exact List.mem_singleton.mpr rfl))).trans q) (fun b hb => by rw [List.mem_singleton.mp hb]; exact fp_to fS q2.2)
  refine wpAny_pure ⟨plainId_quiet PySem.F.plain_min_loop _, turn hh hs hk hl hu ha hne (Nat.ne_of_lt hlt) hlS fit fS (fun v z x G hx rx J e => ⟨x, G, J, rx, q x G hx e⟩) _ 0 _ G' u u' _ v' d2 _ rfl hn J2 e' q1.2 q2.2 ⟨o1, (Heap.get?_update_ne _ _ _ _ hne).trans q1.1, a2, a3⟩ (Heap.get?_update_self _ q2.1 rfl) (List.getElem?_eq_getElem hn) ru hd2 rv' dp'⟩
/-- a def as such a key -/
theorem keysD_of {k : Nat} {f : Addr} {fd : FuncData} {x : Str} {pre : List PyData → Prop} {g : List PyData → PyData} {H : Hp} {xs : List V} {ds : List PyData} (F : FnOk X.prog X.w X.K X.mg X.base C8.CX0 k f fd [x] (AsSort.spP X.K pre g)) (hr : Room (k + 1) X.A)
    (hb : Binds X.K fd [x] []) (hd : DpAll X.K H xs ds) (hp : ∀ d ∈ ds, pre [d]) : KeysD X (.ref f) H xs (ds.map fun d => g [d]) := by
  intro pins σ G z i v u d I ex hx hk ru
  rw [List.getElem?_map] at hk
  cases hi : ds[i]? with
  | none => rw [hi] at hk; cases hk
  | some d0 =>
    rw [hi] at hk
    have ed : g [d0] = d := Option.some.inj hk
    have hv : Dp X.K G v d0 := AsSort.dp_ex ex (AsSort.dpAll_get hd hx hi)
    have E0' : Env0 X.prog X.w X.K X.mg X.base X.A.in1 X.stack z G := I.env0.in1
    refine wpAny_call (codeAny_mono (F.run X.A.in1 X.stack z G ⟨[u], []⟩ [u] [v] (fun v G' => Ex G G' ∧ Dp X.K G' v d) C8.E0 hr.in1 E0' (hb z [u] I.kIn rfl) (.cons ru .nil) ⟨[d0], .cons hv .nil, hp d0 (List.mem_of_getElem? hi), fun w' G' e' h' => ⟨e', by rw [← ed]; exact h'⟩⟩) fun r s' hq => ?_)
    cases r with
    | error e => exact hq.elim
    | ok fl =>
      cases fl with
      | ret u =>
        obtain ⟨v', H', os, bare, un, hok, rr, e', hd'⟩ := hq
        obtain ⟨hh, g', d', t', os'⟩ := s'
        obtain rfl : os' = z.os := os
        refine ⟨v', H', I.call (h' := hh) (g' := g') (d' := d') (t' := t') (ch := []) un hok bare (fun b z => absurd z (by simp)), rr, e', hd', fun b o hb hn hfs hl => ⟨un.keep b o hb hn (fun w => (List.mem_cons.mp (I.stkSub b w)).elim hl hfs) List.not_mem_nil, un.free b o hb hn List.not_mem_nil⟩⟩
      | next => exact False.elim hq
      | brk => exact False.elim hq
      | cont => exact False.elim hq
/-- min(xs, key=f) -/
def rMinKey (K : PySem.W.Frag) (f : Addr) (pre : List PyData → Prop) (g : List PyData → PyData) : List V → List V → Hp → VK → Prop := fun vs zs H Q => ∃ (l : Addr) (xs : List V) (ds : List PyData), vs = [.ref l] ∧ zs = [.ref f] ∧ SqL K H l xs ∧ DpAll K H xs ds ∧ (∀ d ∈ ds, pre [d]) ∧
  (∀ d ∈ ds, g [d] ≠ .none ∧ (g [d]).depth ≤ 50) ∧ PySem.W.AllAlike (ds.map fun d => g [d]) ∧ 0 < ds.length ∧ ∀ x d G, ds[argBest (btD (ds.map fun d => g [d])) (ds.length - 1)]? = some d → Ex H G → Dp K G x d → Q x G
theorem cr_minKey {k : Nat} {f : Addr} {fd : FuncData} {x : Str} {pre : List PyData → Prop} {g : List PyData → PyData} (F : FnOk X.prog X.w X.K X.mg X.base C8.CX0 k f fd [x] (AsSort.spP X.K pre g)) (hr : Room (k + 1) X.A) (hb : Binds X.K fd [x] []) : CallRK X (.builtin "min") [Str.ofString "key"] (rMinKey X.K f pre g) := by
  intro pins s σ H vs zs us ws Q I r rz h
  obtain ⟨l, xs, ds, rfl, rfl, hs, hd, hp, hdep, hal, hn, q⟩ := h
  obtain rfl := Vals.ref1 r
  obtain ⟨w1, rfl, e1⟩ := vals1 rz
  obtain rfl : w1 = Value.ref f := e1
  have hl : xs.length = ds.length := AsSort.dpAll_len hd
  refine min_run hr.hd I hs (keysD_of F hr hb hd hp) (by rw [List.length_map]; omega) (fun d hm => ?_) hal (by omega) fun x G hx e => ?_
  · obtain ⟨d0, h0, rfl⟩ := List.mem_map.mp hm
    have h1 := hdep d0 h0
    have h2 := hr.un
    refine ⟨h1.1, ?_⟩
    have := h1.2
    show X.A.units + 1 + (g [d0]).depth < cLine
    omega
  · rw [hl] at hx
    have hlt : argBest (btD (ds.map fun d => g [d])) (ds.length - 1) < ds.length := by
      have := (List.getElem?_eq_some_iff.mp hx).1
      omega
    exact q x _ G (List.getElem?_eq_getElem hlt) e (AsSort.dp_ex e (AsSort.dpAll_get hd hx (List.getElem?_eq_getElem hlt)))
end
end AsMin

set_option maxHeartbeats 4000000
set_option autoImplicit false
/-! the defs of menders, as defs that raise. -/
namespace K27
open PySem PySem.Spec PyProof.Rows L2 AsSort AsKit AsMax AsMin
open Evl (Ex Ev EvT EvA)
open LamX (ExtN TabB)
open NdefX (TabsN NTab NScope nscope_by NF startF)
def anyLe (ps : List (Str × Str)) : Bool := (ps.map fun p => decide ((p.1.length : Int) ≤ (p.2.length : Int))).any id
theorem lot_ps {y : Str} {m : PyData} (h : lotD y m = true) : ∃ ps : List (Str × Str), m = .tuple (ps.map kD) ∧ ps.length ≤ 12 ∧ ∀ p ∈ ps, p.1.length ≤ 3 ∧ p.2.length ≤ 1 := by
  cases m with
  | tuple es =>
    have h : (decide (es.length ≤ 12) && (es.all (kindD y) && decide (es.map pairOf).Nodup)) = true := h
    simp only [Bool.and_eq_true, decide_eq_true_eq] at h
    obtain ⟨h1, h2, h3⟩ := h
    have e : es = (es.map pairOf).map kD := by
      rw [List.map_map]
      refine (List.map_id'' (fun _ => rfl) es).symm.trans (List.map_congr_left fun d hd => ?_)
      exact kD_pair (List.all_eq_true.mp h2 d hd)
    refine ⟨es.map pairOf, congrArg PyData.tuple e, by rw [List.length_map]; exact h1, fun p hp => ?_⟩
    obtain ⟨d, hd, rfl⟩ := List.mem_map.mp hp
    have hk := List.all_eq_true.mp h2 d hd
    rw [kD_pair hk] at hk
    have hk : ((withinS y (pairOf d).1 3 && withinS y (pairOf d).2 1) && !decide ((pairOf d).1 = (pairOf d).2)) = true := hk
    unfold withinS at hk
    simp only [Bool.and_eq_true, decide_eq_true_eq] at hk
    obtain ⟨⟨⟨a, _⟩, b, _⟩, _⟩ := hk
    exact ⟨by omega, by omega⟩
  | _ => cases h
/-- a mender: which error, or what is asked where it is right -/
def MR (CK CR : Addr) (y : Str) (m : PyData) (H : Hp) (E : XK) (R : Hp → Prop) : Prop := TxL m ∧ (lotD y m = false → ∀ H', Ex H H' → E (.ref CK) none H') ∧
  ∀ ps, m = .tuple (ps.map kD) → lotD y m = true → (anyLe ps = true → ∀ H', Ex H H' → E (.ref CR) none H') ∧ (anyLe ps = false → ∀ H', Ex H H' → R H')
theorem MR.ex {CK CR : Addr} {y : Str} {m : PyData} {H H1 : Hp} {E : XK} {R : Hp → Prop} (h : MR CK CR y m H E R) (e : Ex H H1) : MR CK CR y m H1 E R :=
  ⟨h.1, fun a H' x => h.2.1 a H' (e.trans x), fun ps e1 e2 => ⟨fun a H' x => (h.2.2 ps e1 e2).1 a H' (e.trans x), fun a H' x => (h.2.2 ps e1 e2).2 a H' (e.trans x)⟩⟩
def BM (CK CR : Addr) (y : Str) (m : PyData) (C : Addr) : Prop := TxL m ∧ ((C = CK ∧ lotD y m = false) ∨ (C = CR ∧ lotD y m = true ∧ ∃ ps, m = .tuple (ps.map kD) ∧ anyLe ps = true))
theorem map_kD_inj {ps qs : List (Str × Str)} (h : ps.map kD = qs.map kD) : ps = qs := by
  have := congrArg (List.map pairOf) h
  rw [List.map_map, List.map_map] at this
  have e : ∀ l : List (Str × Str), l.map (pairOf ∘ kD) = l := fun l => (List.map_congr_left fun p _ => pair_kD p).trans (List.map_id' l)
  rw [e, e] at this
  exact this
theorem mr_bad {CK CR C : Addr} {y : Str} {m : PyData} {H : Hp} {E : XK} {R : Hp → Prop} (b : BM CK CR y m C) (h : ∀ H', Ex H H' → E (.ref C) none H') : MR CK CR y m H E R := by
  obtain ⟨t, b | b⟩ := b
  · obtain ⟨rfl, b⟩ := b
    exact ⟨t, fun _ => h, fun ps e1 e2 => by rw [b] at e2; cases e2⟩
  · obtain ⟨rfl, b, ps, rfl, hp⟩ := b
    refine ⟨t, (fun z => by rw [b] at z; cases z), fun qs e1 e2 => ?_⟩
    have := map_kD_inj (PyData.tuple.inj e1)
    subst this
    exact ⟨fun _ => h, (fun z => by rw [hp] at z; cases z)⟩
section
variable {P : Program} {w : World} {K : PySem.W.Frag} {mg : Str → Option Value} {base : Heap} {CL CK CR CT CN CX : Addr}
def spXMender (K : PySem.W.Frag) (CK CR : Addr) : Sp := fun vs H Q E => ∃ y m, DpAll K H vs [.str y, m] ∧ MR CK CR y m H E (fun H' => Q .non H')
theorem x_check_mender (D : Df K mg "check_mender" sCheckMender) (c : Ec K mg "BadMender" CR) (hb : Bl mg) (C1 : Klx P w K mg base 5 "check_kinds" ["letters", "kinds"] (spXKinds K CK)) : Klx P w K mg base 6 "check_mender" ["letters", "mender"] (spXMender K CK CR) := by
  refine klx_of D sc_check_mender (fun vs H Q E ⟨l, k, h, _⟩ => dpAll_len h) (fun _ _ _ _ _ _ us hl => match us, hl with | [_, _], _ => rfl) fun f cdv A outer s H vs Q E hr h => ?_
  obtain ⟨y, m, hd, m1, m2, m3⟩ := h
  obtain ⟨v, v2, rfl, h0, h1⟩ := dp2 hd
  obtain ⟨f1, fd1, F1, g1, k1, b1⟩ := C1
  refine ⟨_, pss_cons (ps_expr (pe_call F1 (hr.mono (by decide)) (by rfl) g1 k1 b1 .nil (passes_call (takes_of rfl rfl rfl rfl) fun _ _ _ _ h => h) (pa_cons (pv 0) (pa_cons (pv 1) pa_nil))))
    (pss_one (ps_if (pt_val (pe_anyL (by rfl) hb (pe_lc (own := [("left", 2), ("right", 3)]) (g := gTup K 2 (gCons (gName 2) (gCons (gName 3) gNil))) rfl sc_check_mender.nd (pi_tup (pv 1)) (blkOk_by (N := nCheckMender) (sc := defScope sCheckMender) (own := [("left", 2), ("right", 3)]) (by decide +kernel))
      (fun _ _ _ _ _ => pg_tup rfl (pgs_cons (pg_name (i := 2) sc_check_mender.nd rfl (.inl rfl) (.inr rfl)) (pgs_cons (pg_name (i := 3) sc_check_mender.nd rfl (.inl rfl) (.inr rfl)) pgs_nil))) (fun _ _ _ _ _ => pts_nil) (fun _ _ _ _ _ => pe_cmpR op_le (pe_lenS hb (pv 2)) (pe_lenS hb (pv 3)) (nomark _))))) (pss_one (ps_raise0 c rfl (takes_of rfl rfl rfl rfl) (by rfl))) pss_nil)), ?_⟩
  refine ⟨v, rfl, v2, rfl, [.str y, m], .cons h0 (.cons h1 .nil), ⟨y, m, rfl, m1⟩, fun ok H1 e1 => ?_, fun no H1 e1 => m2 no H1 e1⟩
  obtain ⟨ps, rfl, pl, pb⟩ := lot_ps ok
  have a1 : At K (start nCheckMender [v, v2]) H1 1 (.tuple (ps.map kD)) := ⟨_, rfl, dp_ex e1 h1⟩
  have tst : EvD K (tCB (rAny K) (tCons (tLc (iTup K (tVar 1)) (gTup K 2 (gCons (gName 2) (gCons (gName 3) gNil))) tYes (tOp (rI0 fun i j => .bl (decide (i ≤ j))) (tCB rLenTx (tCons (tVar 2) tNil)) (tCB rLenTx (tCons (tVar 3) tNil))) [2, 3]) tNil)) (start nCheckMender [v, v2]) H1 (.bool (anyLe ps)) := by
    refine d_any (d_eqTo (d_lcT (fun _ => true) (fun d => .bool (decide (((pairOf d).1.length : Int) ≤ ((pairOf d).2.length : Int)))) (d_var a1) (by rw [List.length_map]; omega) (fun d hd _ => rfl) fun d hd x H2 e2 hx k hk => ?_) ?_)
    · obtain ⟨p, hp, rfl⟩ := List.mem_map.mp hd
      have l1 : (pairOf (kD p)).1.length ≤ 3 := (pb p hp).1
      have l2 : (pairOf (kD p)).2.length ≤ 1 := (pb p hp).2
      exact g_two hx fun va vb ha hb2 => hk _ rfl (fun H3 e3 Q q => q H3 (Ex.refl H3)) fun _ => d_cmpI (g := fun i j => decide (i ≤ j)) (d_lenS (d_var ⟨_, rfl, ha⟩) (by omega)) (d_lenS (d_var ⟨_, rfl, hb2⟩) (by omega))
    · rw [List.filter_eq_self.mpr fun _ _ => rfl, List.map_map, List.map_map]
      rfl
  dsimp only
  refine Evl.s_if (t_ofB tst) (fun hb1 H2 e2 => ?_) fun hb1 H2 e2 => ?_
  · exact (m3 ps rfl ok).1 hb1 H2 (e1.trans e2)
  · exact (m3 ps rfl ok).2 hb1 H2 (e1.trans e2)
end
end K27

set_option maxHeartbeats 4000000
set_option autoImplicit false
/-! verdicts of right readers. -/
namespace K27
open PySem PySem.Spec PyProof.Rows L2 AsSort AsKit
open Evl (Ex Ev EvT EvA)
theorem stand_int {n : Int} {i : Nat} (h : (i : Int) < n) : standD n (.int (i : Int)) = true := by
  have k : isIntD (.int (i : Int)) = true := (by decide +kernel : (isK "int" "int" && !isK "int" "bool") = true)
  unfold standD
  rw [k, Bool.true_and]
  show (decide ((0 : Int) ≤ (i : Int)) && decide ((i : Int) < n)) = true
  rw [decide_eq_true (by omega : (0 : Int) ≤ (i : Int)), decide_eq_true h]
  rfl
theorem reader_ok {M : Mach} (h : M.Ok) : readerD M.d = true := by
  show (isLettersD (.str M.y) && (isD "tuple" (.tuple (M.rs.map rowP)) && (isD "tuple" (.tuple (M.ys.map PyData.bool)) && okRows (.str M.y) (.tuple (M.rs.map rowP)) (.tuple (M.ys.map PyData.bool))))) = true
  rw [show isLettersD (.str M.y) = true from h.ls, isD_tup1, isD_tup1, Bool.true_and, Bool.true_and, Bool.true_and]
  show (((decide ((1 : Int) ≤ ((M.rs.map rowP).length : Int)) && decide (((M.rs.map rowP).length : Int) ≤ 200)) && decide (((M.ys.map PyData.bool).length : Int) = ((M.rs.map rowP).length : Int))) && ((M.rs.map rowP).all (rowD M.y.length (M.rs.map rowP).length) && (M.ys.map PyData.bool).all (isD "bool"))) = true
  rw [List.length_map, List.length_map]
  have n1 := h.n1
  have n2 := h.n2
  have n3 := h.ye
  rw [decide_eq_true (by omega : (1 : Int) ≤ (M.rs.length : Int)), decide_eq_true (by omega : (M.rs.length : Int) ≤ 200), decide_eq_true (by omega : (M.ys.length : Int) = (M.rs.length : Int)), Bool.true_and, Bool.true_and, Bool.true_and]
  rw [Bool.and_eq_true]
  constructor
  · rw [List.all_map]
    refine List.all_eq_true.mpr fun r hr => ?_
    obtain ⟨l1, l2⟩ := h.row r hr
    show (decide (((r.map fun (n : Nat) => PyData.int n).length : Int) = (M.y.length : Int)) && (r.map fun (n : Nat) => PyData.int n).all (standD M.rs.length)) = true
    rw [List.length_map, decide_eq_true (by omega : (r.length : Int) = (M.y.length : Int)), Bool.true_and, List.all_map]
    exact List.all_eq_true.mpr fun s hs => stand_int (by have := l2 s hs; omega)
  · rw [List.all_map]
    exact List.all_eq_true.mpr fun b _ => (by decide +kernel : isK "bool" "bool" = true)
theorem tx_reader (M : Mach) (h : M.Ok) : TxR M.d := fun ds e u hu => by
  cases e
  intro z hz
  simp only [List.mem_cons, List.not_mem_nil, or_false] at hu
  rcases hu with rfl | rfl | rfl
  · cases hz
    have := h.yl
    omega
  · cases hz
  · cases hz
section
variable {P : Program} {w : World} {K : PySem.W.Frag} {mg : Str → Option Value} {base : Heap}
abbrev spCheckReader (K : PySem.W.Frag) : Sp := spP K (fun ds => ∃ M : Mach, ds = [M.d] ∧ M.Ok) (fun _ => .none)
def Mach.says (M : Mach) (cs : List Nat) : Bool := M.ys.getD (M.led 0 cs) false
theorem d_callE {σ : L2.St} {H : Hp} {ta : TA} {ds : List PyData} {sp : Sp} {E : XK} {d : PyData} (h : EvDs K ta σ H ds) (hs : ∀ vs H1 (Q : VK), Ex H H1 → DpAll K H1 vs ds → (∀ v H2, Ex H1 H2 → Dp K H2 v d → Q v H2) → sp vs H1 Q E) : EvD K (tCall sp [] E ta) σ H d := fun H1 a Q q =>
  h H1 a _ fun vs H2 x hd => by
    show sp (vs ++ []) H2 Q E
    rw [List.append_nil]
    exact hs vs H2 Q (a.trans x) hd fun v H3 y hv => q v H3 (x.trans y) hv
end
end K27

set_option maxHeartbeats 4000000
set_option autoImplicit false
/-! a body whose first statement never comes through: what stands behind it is not looked at. -/
namespace AsKit
open PySem PySem.Spec PyProof.Rows L2 AsSort
theorem pss_stop {X : Cx} {st : Stmt} {rest : List Stmt} {t : TS} (h1 : PS X st t) : PSs X (st :: rest) (fun D σ H => t { D with nx := fun _ _ => False } σ H) := by
  refine ⟨fun pins s σ H D I h => ?_⟩
  refine wpAny_execs_cons (thn (h1.run pins s σ H { D with nx := fun _ _ => False } I h) fun f s1 q => ?_)
  cases f with
  | next =>
    obtain ⟨_, _, _, q⟩ := q
    exact q.elim
  | ret v => exact q
  | brk => exact q
  | cont => exact q
end AsKit

set_option maxHeartbeats 4000000
set_option autoImplicit false
/-! the checks of readers, as they raise. -/
namespace K27
open PySem PySem.Spec PyProof.Rows L2 AsSort AsKit
open Evl (Ex Ev EvT EvA)
section
variable {P : Program} {w : World} {K : PySem.W.Frag} {mg : Str → Option Value} {base : Heap}
abbrev spXReader (K : PySem.W.Frag) (C : Addr) : Sp := spCk K (fun ds => ∃ d, ds = [d] ∧ TxR d) (fun ds => match ds with
  | [d] => readerD d
  | _ => false) C
abbrev spXTextR (K : PySem.W.Frag) (C : Addr) : Sp := spCk K (fun ds => ∃ y d, ds = [.str y, d] ∧ Tx d) (fun ds => match ds with
  | [.str y, d] => withinD y 40 d
  | _ => false) C
/-- a reader's letters -/
def letsOf : PyData → Str
  | .tuple (.str y :: _) => y
  | _ => ""
theorem reader_parts {d : PyData} (h : readerD d = true) : ∃ y rs ys, d = .tuple [.str y, .tuple rs, .tuple ys] := by
  cases d with
  | tuple ds =>
    by_cases hl : ds.length = 3
    · obtain ⟨a, b, c, rfl⟩ := three_of hl
      have h2 : (isLettersD a && (isD "tuple" b && (isD "tuple" c && okRows a b c))) = true := h
      simp only [Bool.and_eq_true] at h2
      obtain ⟨h3, h4, h5, _⟩ := h2
      obtain ⟨y, rfl, _⟩ := lettersD_str h3
      obtain ⟨rs, rfl⟩ := isD_tup h4
      obtain ⟨ys, rfl⟩ := isD_tup h5
      exact ⟨y, rs, ys, rfl⟩
    · have : readerL ds = true := h
      rw [readerL_len hl] at this
      cases this
  | _ => cases h
/-- two values, which is wrong first, or unlike; R, what is asked where both are readers of the same letters -/
def Ck2R (CR CU : Addr) (a b : PyData) (H : Hp) (E : XK) (R : Hp → Prop) : Prop := TxR a ∧ (readerD a = false → ∀ H', Ex H H' → E (.ref CR) none H') ∧
  (readerD a = true → TxR b ∧ (readerD b = false → ∀ H', Ex H H' → E (.ref CR) none H') ∧ (readerD b = true → (letsOf a ≠ letsOf b → ∀ H', Ex H H' → E (.ref CU) none H') ∧ (letsOf a = letsOf b → ∀ H', Ex H H' → R H')))
def spX2R (K : PySem.W.Frag) (CR CU : Addr) : Sp := fun vs H Q E => ∃ a b, DpAll K H vs [a, b] ∧ Ck2R CR CU a b H E (fun H' => Q .non H')
end
end K27

set_option maxHeartbeats 4000000
set_option autoImplicit false
/-! [e for x in list for y in tuple] told as data. -/
namespace AsKit
open PySem PySem.Spec PyProof.Rows L2 AsSort
open Evl (Ex Ev EvT EvA)
section
variable {K : PySem.W.Frag} {σ : L2.St} {H : Hp} {tl tl1 te : TE} {gt gt1 : TG} {vs vs1 : List Nat} {ds : List PyData}
/-- what the inner clause makes of d -/
def In1 (K : PySem.W.Frag) (gt1 : TG) (tl1 te : TE) (vs1 : List Nat) (F : PyData → List PyData) (G : PyData → PyData) (H0 : Hp) (σ2 : L2.St) (H1 : Hp) (d : PyData) : Prop := EvD K tl1 σ2 H1 (.tuple (F d)) ∧ ∀ e ∈ F d, ∀ y H2, Ex H0 H2 → Dp K H2 y e → ∀ k : L2.St → Hp → Prop, (∀ σ3, wipe σ3 vs1 = wipe σ2 vs1 → EvD K te σ3 H2 (G e) → k σ3 H2) → gt1 y (wipe σ2 vs1) H2 k
theorem immAll_app {xs ys : List PyData} (h1 : immAll xs = true) (h2 : immAll ys = true) : immAll (xs ++ ys) = true := immAll_of fun d hd => (List.mem_append.mp hd).elim (fun z => imm_all h1 d z) fun z => imm_all h2 d z
theorem dpAll_app2 {G : Hp} {ws : List V} {es : List PyData} (h2 : DpAll K G ws es) : ∀ {vs : List V} {ds : List PyData}, DpAll K G vs ds → DpAll K G (vs ++ ws) (ds ++ es)
  | [], [], .nil => h2
  | _ :: _, _ :: _, .cons a b => .cons a (dpAll_app2 h2 b)
theorem d_lc2 (F : PyData → List PyData) (G : PyData → PyData) (h : EvD K tl σ H (.list ds)) (hz : (ds.flatMap fun d => (F d).map G).length ≤ 50000) (him : ∀ d ∈ ds, ∀ e ∈ F d, imm (G e) = true) (him1 : ∀ d ∈ ds, immAll (F d) = true)
    (ht : ∀ d ∈ ds, ∀ x H1, Ex H H1 → Dp K H1 x d → ∀ k : L2.St → Hp → Prop, (∀ σ2, wipe σ2 vs = wipe σ vs → In1 K gt1 tl1 te vs1 F G H σ2 H1 d → k σ2 H1) → gt x (wipe σ vs) H1 k) :
    EvD K (tLc2 (iList K tl) gt tYes (iTup K tl1) gt1 tYes te vs vs1) σ H (.list (ds.flatMap fun d => (F d).map G)) := fun H1 a Q q => h H1 a _ fun v H2 x hd => by
  cases hd with
  | lst hs hx =>
    rename_i p xs
    have ll : xs.length = ds.length := dpAll_len hx
    have himp : ∀ i, immAll ((ds.take i).flatMap fun d => (F d).map G) = true := fun i => immAll_of fun z hz => by
      obtain ⟨d, hd, hz⟩ := List.mem_flatMap.mp hz
      obtain ⟨e, he, rfl⟩ := List.mem_map.mp hz
      exact him d (List.mem_of_mem_take hd) e he
    have hG : ∀ (d : PyData) (j : Nat), d ∈ ds → immAll (((F d).take j).map G) = true := fun d j hd => immAll_of fun z hz => by
      obtain ⟨e, he, rfl⟩ := List.mem_map.mp hz
      exact him d hd e (List.mem_of_mem_take he)
    refine ⟨_, rfl, ⟨_, hs⟩, fun D hD => ⟨fun i m H' => m = xs.length - i ∧ i ≤ xs.length ∧ Ex H2 H' ∧ ∃ acc, H' D = some (.lst acc) ∧ DpAll K H' acc ((ds.take i).flatMap fun d => (F d).map G), ⟨_, rfl, Nat.zero_le _, Ex.new hD, [], upd_same, .nil⟩, ?_⟩⟩
    rintro i m H' ⟨rfl, hi, e2, acc, hacc, hda⟩
    have hsq : SqL K H' p xs := Evl.ex_l e2 hs
    by_cases hlt : i < xs.length
    · have hdi : ds[i]? = some ds[i] := List.getElem?_eq_getElem (by omega)
      have hmem : ds[i] ∈ ds := List.getElem_mem (by omega)
      have ek : ds.take (i + 1) = ds.take i ++ [ds[i]] := by rw [List.take_add_one, hdi]; simp
      have efl : (ds.take (i + 1)).flatMap (fun d => (F d).map G) = (ds.take i).flatMap (fun d => (F d).map G) ++ (F ds[i]).map G := by rw [ek, List.flatMap_append, List.flatMap_singleton]
      have elen : ((ds.take i).flatMap fun d => (F d).map G).length + (F ds[i]).length ≤ 50000 := by
        have e : ds = ds.take (i + 1) ++ ds.drop (i + 1) := (List.take_append_drop _ _).symm
        have l := congrArg (fun l : List PyData => (l.flatMap fun d => (F d).map G).length) e
        simp only [List.flatMap_append, List.length_append] at l
        rw [efl, List.length_append, List.length_map] at l
        omega
      refine .inr ⟨⟨xs, xs[i], hsq, List.getElem?_eq_getElem hlt⟩, fun G' => Ex H2 G' ∧ ∃ acc, G' D = some (.lst acc) ∧ DpAll K G' acc ((ds.take (i + 1)).flatMap fun d => (F d).map G), fun G' hN => ⟨xs.length - (i + 1), by omega, rfl, by omega, hN⟩, fun y G' hy => ?_⟩
      obtain ⟨e, hy⟩ := hy
      subst e
      have hyx := hy xs hsq
      have hdy : Dp K G' y ds[i] := dp_ex e2 (dpAll_get hx hyx hdi)
      refine ht ds[i] hmem y G' (a.trans (x.trans e2)) hdy _ fun σ2 w hin => ⟨w, ?_⟩
      unfold tYes
      obtain ⟨hit, hturn⟩ := hin
      simp only [if_true]
      refine hit G' (Ex.refl _) _ fun u H3 e3 hu => ?_
      cases hu with
      | tup hs1 hx1 =>
        rename_i p1 ys
        have ll1 : ys.length = (F ds[i]).length := dpAll_len hx1
        refine ⟨p1, rfl, ⟨_, hs1⟩, fun j k H4 => k = ys.length - j ∧ j ≤ ys.length ∧ Ex H2 H4 ∧ SqT K H4 p1 ys ∧ DpAll K H4 ys (F ds[i]) ∧ ∃ acc, H4 D = some (.lst acc) ∧ DpAll K H4 acc ((ds.take i).flatMap (fun d => (F d).map G) ++ ((F ds[i]).take j).map G), ⟨_, rfl, Nat.zero_le _, e2.trans e3, hs1, hx1, acc, e3 _ _ hacc, by rw [List.take_zero, List.map_nil, List.append_nil]; exact dpAll_ex e3 hda⟩, ?_⟩
        rintro j k H4 ⟨rfl, hj, e4, hs4, hx4, acc4, hacc4, hda4⟩
        by_cases hlj : j < ys.length
        · have hej : (F ds[i])[j]? = some (F ds[i])[j] := List.getElem?_eq_getElem (by omega)
          have hem : (F ds[i])[j] ∈ F ds[i] := List.getElem_mem (by omega)
          have ekj : (F ds[i]).take (j + 1) = (F ds[i]).take j ++ [(F ds[i])[j]] := by rw [List.take_add_one, hej]; simp
          refine .inr ⟨⟨ys, ys[j], hs4, List.getElem?_eq_getElem hlj⟩, fun G5 => Ex H2 G5 ∧ SqT K G5 p1 ys ∧ DpAll K G5 ys (F ds[i]) ∧ ∃ acc, G5 D = some (.lst acc) ∧ DpAll K G5 acc ((ds.take i).flatMap (fun d => (F d).map G) ++ ((F ds[i]).take (j + 1)).map G), fun G5 hN => ⟨ys.length - (j + 1), by omega, rfl, by omega, hN⟩, fun z G5 hz5 => ?_⟩
          obtain ⟨e5, hz5⟩ := hz5
          subst e5
          have hzx := hz5 ys hs4
          refine hturn (F ds[i])[j] hem z G5 (a.trans (x.trans e4)) (dpAll_get hx4 hzx hej) _ fun σ3 w3 hte => ⟨w3, ?_⟩
          refine hte G5 (Ex.refl _) _ fun u6 H6 e6 hu6 => ?_
          have hD6 := e6 _ _ hacc4
          have hl4 : acc4.length ≤ 50000 := by
            rw [dpAll_len hda4, List.length_append, List.length_map, List.length_take]
            omega
          have tu := tu_lst (K := K) (ys := acc4) (o := .lst (acc4 ++ [u6])) hD6
          refine ⟨acc4, hD6, Evl.sz_lt (by omega), Ex.mut (e4.trans e6) hD, tu _ _ (Evl.ex_t e6 hs4), dpAll_tu tu (him1 _ hmem) (dpAll_ex e6 hx4), acc4 ++ [u6], upd_same, ?_⟩
          rw [ekj, List.map_append, ← List.append_assoc]
          exact dpAll_snoc (dp_tu tu (him _ hmem _ hem) hu6) (dpAll_tu tu (immAll_app (himp i) (hG _ j hmem)) (dpAll_ex e6 hda4))
        · have ej : j = ys.length := by omega
          subst ej
          refine .inl ⟨⟨ys, hs4, Nat.le_refl _⟩, e4, acc4, hacc4, ?_⟩
          rw [ll1, List.take_length] at hda4
          rw [efl]
          exact hda4
    · have e : i = xs.length := by omega
      subst e
      refine .inl ⟨⟨xs, hsq, Nat.le_refl _⟩, q _ H' (x.trans e2) ?_⟩
      rw [ll, List.take_length] at hda
      exact .lst (Evl.sq_of hacc) hda
end
end AsKit

set_option maxHeartbeats 4000000
set_option autoImplicit false
/-! f'..' as data; x if t else y. -/
namespace AsKit
open PySem PySem.Spec PyProof.Rows L2 AsSort
open Evl (Ex Ev EvT EvA)
section
variable {K : PySem.W.Frag} {σ : L2.St} {H : Hp} {te ta tb : TE} {t : TT} {d : PyData}
theorem d_fmtS {y : Str} (h : EvD K te σ H (.str y)) (hl : y.length ≤ 100000) : EvD K (tFmt te) σ H (.str y) := fun H1 a Q q => h H1 a _ fun v H2 x hv => by
  cases hv
  exact .inl ⟨y, rfl, Evl.sz_of hl, q _ H2 x (.str _)⟩
theorem d_fmtI {i : Int} (h : EvD K te σ H (.int i)) (hl : i.natAbs.log2 < 1920) : EvD K (tFmt te) σ H (.str (toString i)) := fun H1 a Q q => h H1 a _ fun v H2 x hv => by
  cases hv
  exact .inr ⟨i, rfl, hl, q _ H2 x (.str _)⟩
/-- the pieces of f'..' -/
inductive Pcs (K : PySem.W.Frag) (σ : L2.St) (H : Hp) : List TE → List Str → Prop where
  | nil : Pcs K σ H [] []
  | cons {t : TE} {y : Str} {ts : List TE} {ys : List Str} : EvD K t σ H (.str y) → Pcs K σ H ts ys → Pcs K σ H (t :: ts) (y :: ys)
theorem Pcs.mono {H' : Hp} (e : Ex H H') : ∀ {ts : List TE} {ys : List Str}, Pcs K σ H ts ys → Pcs K σ H' ts ys
  | _, _, .nil => .nil
  | _, _, .cons a b => .cons (a.mono e) (Pcs.mono e b)
def js (ys : List Str) (acc : Str) : Str := ys.foldl (· ++ ·) acc
theorem js_go : ∀ {ts : List TE} {ys : List Str} {acc : Str} {H : Hp} {Q : Str → Hp → Prop}, Pcs K σ H ts ys → acc.length + (ys.map (·.length)).sum ≤ 100000 → (∀ H1, Ex H H1 → Q (js ys acc) H1) → tJs ts acc σ H Q
  | _, _, acc, H, Q, .nil, _, q => q H (Ex.refl H)
  | _, _, acc, H, Q, .cons (y := y) (ys := ys) a b, hl, q => a H (Ex.refl H) _ fun v H1 e hv => by
    cases hv
    have hl2 : (acc ++ y).length + (ys.map (·.length)).sum ≤ 100000 := by
      rw [add_len]
      rw [List.map_cons, List.sum_cons] at hl
      omega
    exact ⟨y, rfl, Evl.sz_of (by omega), js_go (b.mono e) hl2 fun H2 e2 => q H2 (e.trans e2)⟩
theorem d_js {ts : List TE} {ys : List Str} (h : Pcs K σ H ts ys) (hl : (ys.map (·.length)).sum ≤ 100000) : EvD K (fun σ H Q => tJs ts Str.empty σ H fun out H1 => Q (.str out) H1) σ H (.str (js ys Str.empty)) := fun H1 a Q q =>
  js_go (h.mono a) (by show 0 + _ ≤ _; omega) fun H2 e => q _ H2 e (.str _)
theorem d_ifE {b : Bool} (ht : EvT t σ H b) (h1 : b = true → EvD K ta σ H d) (h2 : b = false → EvD K tb σ H d) : EvD K (tIf t ta tb) σ H d := fun H1 a Q q => ht H1 a _ fun H2 e => by
  cases b with
  | true => exact h1 rfl H2 (a.trans e) Q fun v H3 x hv => q v H3 (e.trans x) hv
  | false => exact h2 rfl H2 (a.trans e) Q fun v H3 x hv => q v H3 (e.trans x) hv
/-- a list that no one else knows -/
def EvO (K : PySem.W.Frag) (te : TE) (σ : L2.St) (H : Hp) (ds : List PyData) : Prop := ∀ H1, Ex H H1 → ∀ Q : VK, (∀ p vs H2, Ex H1 H2 → H1 p = none → H2 p = some (.lst vs) → DpAll K H2 vs ds → Q (.ref p) H2) → te σ H1 Q
theorem o_lst {tl : TA} {ds : List PyData} (h : EvDs K tl σ H ds) (hl : ds.length ≤ 100000) : EvO K (tLst tl) σ H ds := fun H1 x Q q =>
  h H1 x _ fun vs H2 e hv => ⟨Evl.sz_of (by rw [dpAll_len hv]; exact hl), fun p np => q p vs _ (e.trans (Ex.new np)) (by
    cases z : H1 p with
    | none => rfl
    | some o => rw [e p o z] at np; cases np) upd_same (dpAll_ex (Ex.new np) hv)⟩
theorem q_asgO {D : Ends} {tz : TS} {i : Nat} {ds : List PyData} (h : EvO K te σ H ds) (k : ∀ p vs H1, Ex H H1 → H p = none → H1 p = some (.lst vs) → DpAll K H1 vs ds → tz D (σ.set i (some (.ref p))) H1) : tSeq (tAsg te (gName i)) tz D σ H :=
  h H (Ex.refl H) _ fun p vs H1 e n hp hv => k p vs H1 e n hp hv
theorem strs_of {G : Hp} : ∀ {xs : List V} {zs : List Str}, DpAll K G xs (zs.map PyData.str) → xs = zs.map V.str
  | _, [], .nil => rfl
  | _, _ :: _, .cons (.str z) t => by rw [strs_of t]; rfl
end
end AsKit

set_option maxHeartbeats 4000000
set_option autoImplicit false
/-! the desk's row, story. -/
namespace K27
open PySem PySem.Spec PyProof.Rows L2 AsSort AsKit AsToo AsObj
open Evl (Ex Ev EvT EvA)
section
variable {P : Program} {w : World} {K : PySem.W.Frag} {mg : Str → Option Value} {base : Heap} {C CL CT CK CD CM CR CN CB : Addr}
def rowsOf : PyData → List PyData
  | .tuple [.tuple ds, _] => ds
  | _ => []
theorem rowsOf_step (s : List (Nat × (Str × Str)) × Str) : rowsOf (stepD s) = s.1.map fun d => dD d.1 d.2 := rfl
theorem rows_flat (ss : List (List (Nat × (Str × Str)) × Str)) : ((ss.map stepD).flatMap fun d => (rowsOf d).map id) = (ss.flatMap (·.1)).map fun d => dD d.1 d.2 := by
  induction ss with
  | nil => rfl
  | cons s ss ih =>
    rw [List.map_cons, List.flatMap_cons, List.flatMap_cons, List.map_append, ih, rowsOf_step, List.map_id]
abbrev nRow : List Str := ["self", "row", "_", "deed"]
theorem sc_drow : FnScope nRow ["self"] (defScope (dm 6)) := ⟨rfl, rfl, rfl, by decide +kernel, rfl, by decide +kernel, by decide +kernel⟩
def spDRow (K : PySem.W.Frag) (C : Addr) : Sp := fun vs H Q _ => ∃ (a ps : Addr) (d : Dk), vs = [.ref a] ∧ DkAt K C H a ps d ∧ d.row.length ≤ 50000 ∧ ∀ v H', Ex H H' → Dp K H' v (rowT d.row) → Q v H'
theorem m_row (c : DkC K C) (D : DfM K C "row" "Desk.row" (dm 6)) (hb : Bl mg) : Ml P w K mg base 1 C "row" ["self"] (spDRow K C) := by
  refine ml_of c.cl D sc_drow (fun vs H Q E ⟨a, ps, d, h, _⟩ => by rw [h]; rfl) (fun _ _ _ _ _ _ us hl => match us, hl with | [_], _ => rfl) fun f cdv A outer s H vs Q E hr h => ?_
  obtain ⟨a, ps, d, rfl, hd, hl, q⟩ := h
  refine ⟨_, pss_one (ps_ret (pe_tupQ hb (pe_lc2 (g := gTup K 2 (gCons (gName 1) (gCons (gName 2) gNil))) (wi1 := iTup K (tVar 1)) (own := [("row", 1), ("_", 2), ("deed", 3)]) (vs1 := [3]) rfl sc_drow.nd (pi_list (pe_fld (pv 0) rfl)) (blkOk_by (N := nRow) (sc := defScope (dm 6)) (own := [("row", 1), ("_", 2), ("deed", 3)]) (by decide +kernel)) (by simp)
    (fun _ _ _ _ _ => pg_tup rfl (pgs_cons (pg_name (i := 1) sc_drow.nd rfl (.inl rfl) (.inr rfl)) (pgs_cons (pg_name (i := 2) sc_drow.nd rfl (.inl rfl) (.inr rfl)) pgs_nil))) (fun _ _ _ _ _ => pts_nil) (fun _ _ _ _ _ => pi_tup (pv 1)) (fun _ _ _ _ _ => pg_name (i := 3) sc_drow.nd rfl (.inl rfl) (.inr rfl)) (fun _ _ _ _ _ => pts_nil) (fun _ _ _ _ _ => pv 3)))), ?_⟩
  refine AsKit.s_ret (K := K) (d_tupOf (d_eqTo (d_lc2 rowsOf id (d_fs c hd rfl) (by rw [rows_flat, List.length_map]; exact hl) (fun z hz e he => ?_) (fun z hz => ?_) fun z hz x H1 e1 hx k hk => ?_) (congrArg PyData.list (rows_flat d.steps)))) fun v H1 e1 hv => q v H1 e1 hv
  · obtain ⟨s1, _, rfl⟩ := List.mem_map.mp hz
    rw [rowsOf_step] at he
    obtain ⟨d1, _, rfl⟩ := List.mem_map.mp he
    rfl
  · obtain ⟨s1, _, rfl⟩ := List.mem_map.mp hz
    rw [rowsOf_step]
    exact immAll_of fun y hy => by
      obtain ⟨d1, _, rfl⟩ := List.mem_map.mp hy
      rfl
  · obtain ⟨s1, _, rfl⟩ := List.mem_map.mp hz
    refine g_two (K := K) hx fun va vb ha hb2 => hk _ rfl ⟨d_var ⟨va, rfl, ha⟩, fun e he y H2 e2 hy k2 hk2 => hk2 _ rfl (d_var ⟨y, rfl, hy⟩)⟩
abbrev sPrintedSide : Stmt := top 40
theorem sc_pside : FnScope ["side"] ["side"] (defScope sPrintedSide) := ⟨rfl, rfl, rfl, by decide +kernel, rfl, by decide +kernel, by decide +kernel⟩
def shown (s : Str) : Str := if s = "" then "_" else s
def spPSide : Sp := fun vs H Q _ => ∃ s : Str, vs = [.str s] ∧ ∀ H', Ex H H' → Q (.str (shown s)) H'
theorem c_pside (D : Df K mg "printed_side" sPrintedSide) : Cl P w K mg base 1 "printed_side" spPSide [] := by
  refine cl_of D sc_pside (fun vs H Q E ⟨v, h, _⟩ => by rw [h]; rfl) (fun _ _ _ _ _ _ us hl => match us, hl with | [_], _ => rfl) fun f cdv A outer s H vs Q E hr h => ?_
  obtain ⟨z, rfl, q⟩ := h
  refine ⟨_, pss_one (ps_ret (pe_ifExp (pt_cmpR op_ne (pv 0) pe_str (nomark _)) (pv 0) pe_str)), ?_⟩
  refine AsKit.s_ret (K := K) (d := .str (shown z)) (d_ifE (b := !decide (z = "")) (t_ofD (K := K) (d_neS (d_var ⟨_, rfl, .str z⟩) d_str)) (fun hb1 => d_eqTo (d_var ⟨_, rfl, .str z⟩) ?_) fun hb1 => d_eqTo d_str ?_) fun v H1 e1 hv => by cases hv; exact q H1 e1
  · have : ¬ z = "" := by simpa using hb1
    unfold shown
    rw [if_neg this]
  · have : z = "" := by simpa using hb1
    unfold shown
    rw [if_pos this]
end
end K27

set_option maxHeartbeats 4000000
set_option autoImplicit false
/-! the desk's story. -/
namespace K27
open PySem PySem.Spec PyProof.Rows L2 AsSort AsKit AsToo AsObj
open Evl (Ex Ev EvT EvA)
def intS (p : Nat) : Str := toString (p : Int)
def deedLine (p : Nat) (k : Str × Str) : Str := js [intS p, " ", shown k.1, " > ", shown k.2] Str.empty
def storyL (d : Dk) : List Str := [js ["letters ", d.y] Str.empty, js ["text ", shown d.first] Str.empty] ++ d.row.map fun x => deedLine x.1 x.2
def storyS (d : Dk) : Str := Txt.join "" ((storyL d).map fun z => js [z, "\n"] Str.empty)
theorem intS_len : ∀ p, p ≤ 400 → (intS p).length ≤ 3 := by
  have h : ∀ p < 401, (intS p).length ≤ 3 := by decide +kernel
  exact fun p hp => h p (by omega)
theorem log_small (p : Nat) (h : p ≤ 400) : ((p : Int)).natAbs.log2 < 1920 := by
  have e : ((p : Int)).natAbs = p := rfl
  rw [e]
  by_cases hp : p = 0
  · subst hp
    decide
  · have : p.log2 < 9 := (Nat.log2_lt hp).mpr (by omega)
    omega
theorem shown_len (s : Str) : (shown s).length ≤ s.length + 1 := by
  unfold shown
  split
  · show 1 ≤ _
    omega
  · omega
theorem js_len (ys : List Str) : ∀ acc : Str, (js ys acc).length = acc.length + (ys.map (·.length)).sum := by
  induction ys with
  | nil => exact fun acc => rfl
  | cons y ys ih =>
    intro acc
    show (js ys (acc ++ y)).length = _
    rw [ih, add_len, List.map_cons, List.sum_cons]
    omega
theorem deedLine_len {p : Nat} {k : Str × Str} (h1 : p ≤ 400) (h2 : k.1.length ≤ 40) (h3 : k.2.length ≤ 40) : (deedLine p k).length ≤ 100 := by
  unfold deedLine
  rw [js_len]
  have a := intS_len p h1
  have b := shown_len k.1
  have c := shown_len k.2
  have l1 : (" " : Str).length = 1 := by decide +kernel
  have l3 : (" > " : Str).length = 3 := by decide +kernel
  simp only [List.map_cons, List.map_nil, List.sum_cons, List.sum_nil, l1, l3]
  show 0 + _ ≤ _
  omega
/-- what a story asks of a desk -/
def StOk (d : Dk) : Prop := d.y.length ≤ 40 ∧ d.first.length ≤ 40 ∧ d.row.length ≤ 1000 ∧ ∀ x ∈ d.row, x.1 ≤ 400 ∧ x.2.1.length ≤ 40 ∧ x.2.2.length ≤ 40
theorem line_len {d : Dk} (h : StOk d) : ∀ z ∈ storyL d, z.length ≤ 100 := by
  obtain ⟨h1, h2, h3, h4⟩ := h
  have l1 : ("letters " : Str).length = 8 := by decide +kernel
  have l2 : ("text " : Str).length = 5 := by decide +kernel
  intro z hz
  rcases List.mem_append.mp hz with hz | hz
  · rcases List.mem_cons.mp hz with rfl | hz
    · rw [js_len]
      simp only [List.map_cons, List.map_nil, List.sum_cons, List.sum_nil, l1]
      show 0 + _ ≤ _
      omega
    · rw [List.mem_singleton.mp hz, js_len]
      have := shown_len d.first
      simp only [List.map_cons, List.map_nil, List.sum_cons, List.sum_nil, l2]
      show 0 + _ ≤ _
      omega
  · obtain ⟨x, hx, rfl⟩ := List.mem_map.mp hz
    exact deedLine_len (h4 x hx).1 (h4 x hx).2.1 (h4 x hx).2.2
section
variable {P : Program} {w : World} {K : PySem.W.Frag} {mg : Str → Option Value} {base : Heap} {C CL CT CK CD CM CR CN CB : Addr}
abbrev nStory : List Str := ["self", "lines", "place", "left", "right", "line"]
theorem sc_dstory : FnScope nStory ["self"] (defScope (dm 8)) := ⟨rfl, rfl, rfl, by decide +kernel, rfl, by decide +kernel, by decide +kernel⟩
def spDStory (K : PySem.W.Frag) (C : Addr) : Sp := fun vs H Q _ => ∃ (a ps : Addr) (d : Dk), vs = [.ref a] ∧ DkAt K C H a ps d ∧ StOk d ∧ ∀ H', Ex H H' → Q (.str (storyS d)) H'
theorem dp_strs2 {G : Hp} : ∀ zs : List Str, DpAll K G (zs.map V.str) (zs.map PyData.str)
  | [] => .nil
  | z :: zs => .cons (.str z) (dp_strs2 zs)
theorem m_story (c : DkC K C) (D : DfM K C "story" "Desk.story" (dm 8)) (hb : Bl mg) (C1 : Ml P w K mg base 1 C "row" ["self"] (spDRow K C)) (C2 : Cl P w K mg base 1 "printed_side" spPSide []) : Ml P w K mg base 2 C "story" ["self"] (spDStory K C) := by
  refine ml_of c.cl D sc_dstory (fun vs H Q E ⟨a, ps, d, h, _⟩ => by rw [h]; rfl) (fun _ _ _ _ _ _ us hl => match us, hl with | [_], _ => rfl) fun f cdv A outer s H vs Q E hr h => ?_
  obtain ⟨a, ps, d, rfl, hd, ok, q⟩ := h
  refine ⟨_, pss_cons (ps_set (i := 1) sc_dstory.nd rfl (.inl rfl) (pe_lst (pa_cons (pe_joined (.cons pe_str (.cons (pe_fmt (pe_fld (pv 0) rfl)) .nil))) (pa_cons (pe_joined (.cons pe_str (.cons (pe_fmt (C8.pe_c C2 hr (by decide) (by rfl) (pa_cons (pe_fld (pv 0) rfl) pa_nil))) .nil))) pa_nil))))
    (pss_cons (ps_for PassesOwn.never rfl (pi_tup (pe_ml0 C1 hr (by decide) (pv 0))) (pg_tup rfl (pgs_cons (pg_name (i := 2) sc_dstory.nd rfl (.inl rfl)) (pgs_cons (pg_name (i := 3) sc_dstory.nd rfl (.inl rfl)) (pgs_cons (pg_name (i := 4) sc_dstory.nd rfl (.inl rfl)) pgs_nil))))
      (pss_one (ps_expr (pe_bm PySem.F.plainAttrs_list PySem.F.slot_list_append PySem.F.type_list_append mt_append (pv 1) (pa_cons (pe_joined (.cons (pe_fmt (pv 2)) (.cons pe_str (.cons (pe_fmt (C8.pe_c C2 hr (by decide) (by rfl) (pa_cons (pv 3) pa_nil))) (.cons pe_str (.cons (pe_fmt (C8.pe_c C2 hr (by decide) (by rfl) (pa_cons (pv 4) pa_nil))) .nil)))))) pa_nil)))))
    (pss_one (ps_ret (pe_join pe_str (pe_lcn 5 sc_dstory.nd (pi_list (pv 1)) (fun _ _ _ _ _ => pts_nil) (fun _ _ _ _ _ => pe_joined (.cons (pe_fmt (pv 5)) (.cons pe_str .nil))) (fun _ _ _ _ _ => pg_name sc_dstory.nd rfl (.inl rfl)) (blkOk_by (N := nStory) (sc := defScope (dm 8)) (own := [("line", 5)]) (by decide +kernel)) rfl))))), ?_⟩
  have ok2 := ok
  obtain ⟨o1, o2, o3, o4⟩ := ok2
  have l8 : ("letters " : Str).length = 8 := by decide +kernel
  have l5 : ("text " : Str).length = 5 := by decide +kernel
  have ps1 : ∀ (σ : L2.St) (G : Hp) (i : Nat) (z : Str), At K σ G i (.str z) → EvD K (tCall spPSide [] C8.E0 (tCons (tVar i) tNil)) σ G (.str (shown z)) := fun σ G i z h H1 x Q1 q1 => by
    obtain ⟨v, h1, h2⟩ := h
    cases h2
    exact ⟨_, h1, z, rfl, fun H2 e => q1 _ H2 e (.str _)⟩
  have pf : EvD K (tCall spPSide [] C8.E0 (tCons (tFld K (tVar 0) "first") tNil)) (start nStory [.ref a]) H (.str (shown d.first)) := fun H1 x Q1 q1 => d_ff c hd rfl H1 x _ fun v H2 e hv => by
    cases hv
    exact ⟨d.first, rfl, fun H3 e3 => q1 _ H3 (e.trans e3) (.str _)⟩
  have sl := shown_len d.first
  refine q_asgO (K := K) (ds := ([js ["letters ", d.y] Str.empty, js ["text ", shown d.first] Str.empty] : List Str).map PyData.str) ?_ fun p1 vs1 H1 e1 n1 hp1 hv1 => ?_
  · refine o_lst (ds_cons (d_js (.cons d_str (.cons (d_fmtS (d_fl c hd rfl) (by omega)) .nil)) (by simp only [List.map_cons, List.map_nil, List.sum_cons, List.sum_nil, l8]; omega)) (ds_cons (d_js (.cons d_str (.cons (d_fmtS pf (by omega)) .nil)) (by simp only [List.map_cons, List.map_nil, List.sum_cons, List.sum_nil, l5]; omega)) ds_nil)) (by show 2 ≤ 100000; decide)
  rw [strs_of hv1] at hp1
  obtain ⟨dx, vs, h1, h2, h3⟩ := hd.ex e1
  refine ⟨.ref a, rfl, a, dx, _, rfl, h1, rfl, a, ps, d, rfl, hd.ex e1, by omega, fun v2 H2 e2 hv2 => ?_⟩
  have hp2 := e2 _ _ hp1
  cases hv2 with
  | tup hs hx =>
  rename_i t xs
  have lx : xs.length = d.row.length := by rw [dpAll_len hx, List.length_map]
  refine ⟨t, rfl, ⟨_, hs⟩, for_tup (fun i σ' H' => ∃ x2 x3 x4 : Option V, σ' = [some (.ref a), some (.ref p1), x2, x3, x4, none] ∧ Ex H H' ∧ SqT K H' t xs ∧ DpAll K H' xs (d.row.map fun x => dD x.1 x.2) ∧ H' p1 = some (.lst ((([js ["letters ", d.y] Str.empty, js ["text ", shown d.first] Str.empty] : List Str) ++ (d.row.take i).map fun x => deedLine x.1 x.2).map V.str)))
    ⟨_, _, _, rfl, e1.trans e2, hs, hx, by rw [List.take_zero, List.map_nil, List.append_nil]; exact hp2⟩ (fun i σ' H' _ p => by obtain ⟨_, _, _, _, _, q, _⟩ := p; exact q) (fun i x σ' H' hi p => ?_) fun σ' H' p => ?_⟩
  · obtain ⟨x2, x3, x4, rfl, e3, hs3, hx3, hp3⟩ := p
    have hil : i < d.row.length := by rw [← lx]; exact (List.getElem?_eq_some_iff.mp hi).1
    obtain ⟨y, hy⟩ : ∃ y, d.row[i]? = some y := ⟨_, List.getElem?_eq_getElem hil⟩
    obtain ⟨k1, k2, k3⟩ := o4 y (List.mem_of_getElem? hy)
    have hdx : Dp K H' x (dD y.1 y.2) := dpAll_get hx3 hi (by rw [List.getElem?_map, hy]; rfl)
    refine g_three (K := K) hdx fun va vb vc ha hb2 hc => ?_
    cases ha
    cases hb2
    cases hc
    have ev : EvD K (fun σ H Q => tJs [tFmt (tVar 2), tC (.str " "), tFmt (tCall spPSide [] C8.E0 (tCons (tVar 3) tNil)), tC (.str " > "), tFmt (tCall spPSide [] C8.E0 (tCons (tVar 4) tNil))] Str.empty σ H fun out H1 => Q (.str out) H1) [some (.ref a), some (.ref p1), some (.int (y.1 : Int)), some (.str y.2.1), some (.str y.2.2), none] H' (.str (deedLine y.1 y.2)) := by
      have s1 := shown_len y.2.1
      have s2 := shown_len y.2.2
      have dl := deedLine_len k1 k2 k3
      refine d_js (.cons (d_fmtI (d_var ⟨_, rfl, .int _⟩) (log_small _ k1)) (.cons d_str (.cons (d_fmtS (ps1 _ _ 3 _ ⟨_, rfl, .str _⟩) (by omega)) (.cons d_str (.cons (d_fmtS (ps1 _ _ 4 _ ⟨_, rfl, .str _⟩) (by omega)) .nil))))) ?_
      unfold deedLine at dl
      rw [js_len] at dl
      have z : (Str.empty : Str).length = 0 := rfl
      simp only [z, Nat.zero_add] at dl
      exact Nat.le_trans dl (by decide)
    refine ⟨.ref p1, rfl, .inl ⟨rfl, _, Evl.sq_of hp3⟩, (ds_cons ev ds_nil) H' (Ex.refl H') _ fun us H4 e4 hus => ?_⟩
    cases hus with
    | cons hu hus =>
    cases hus
    cases hu
    have hp4 := e4 _ _ hp3
    have tu := tu_lst (K := K) (o := .lst (((([js ["letters ", d.y] Str.empty, js ["text ", shown d.first] Str.empty] : List Str) ++ (d.row.take i).map fun x => deedLine x.1 x.2).map V.str) ++ [.str (deedLine y.1 y.2)])) hp4
    refine ⟨p1, _, _, rfl, rfl, hp4, Evl.sz_lt ?_, ?_⟩
    · have := List.length_take_le i d.row
      simp only [List.length_map, List.length_append, List.length_cons, List.length_nil]
      have := List.length_take_le' i d.row
      omega
    · refine ⟨_, _, _, rfl, Ex.mut (e3.trans e4) n1, tu _ _ (Evl.ex_t e4 hs3), dpAll_tu tu (immAll_of fun z hz => ?_) (dpAll_ex e4 hx3), ?_⟩
      · obtain ⟨y2, _, rfl⟩ := List.mem_map.mp hz
        rfl
      · rw [upd_same, List.take_add_one, hy]
        simp
  · obtain ⟨x2, x3, x4, rfl, e3, hs3, hx3, hp3⟩ := p
    rw [lx, List.take_length] at hp3
    have hl := line_len ok
    have sz : (storyL d).length ≤ 1002 := by unfold storyL; simp only [List.length_append, List.length_map, List.length_cons, List.length_nil]; omega
    have a1 : At K [some (.ref a), some (.ref p1), x2, x3, x4, none] H' 1 (.list ((storyL d).map PyData.str)) := ⟨_, rfl, .lst (Evl.sq_of hp3) (dp_strs2 _)⟩
    have n1l : ("\n" : Str).length = 1 := by decide +kernel
    have lc : EvD K (tLc (iList K (tVar 1)) (gName 5) tYes (fun σ H Q => tJs [tFmt (tVar 5), tC (.str "\n")] Str.empty σ H fun out H1 => Q (.str out) H1) [5]) [some (.ref a), some (.ref p1), x2, x3, x4, none] H' (.list (((storyL d).map fun z => js [z, "\n"] Str.empty).map PyData.str)) := by
      refine d_eqTo (d_lcL (fun _ => true) (fun z => match z with
        | .str z => .str (js [z, "\n"] Str.empty)
        | _ => .none) (d_var a1) (by rw [List.length_map]; omega) (fun z hz _ => ?_) fun z hz x H5 e5 hx k hk => ?_) ?_
      · obtain ⟨y, _, rfl⟩ := List.mem_map.mp hz
        rfl
      · obtain ⟨y, hy, rfl⟩ := List.mem_map.mp hz
        refine hk _ rfl (fun H6 e6 Q q => q H6 (Ex.refl H6)) fun _ => ?_
        have := hl y hy
        exact d_js (.cons (d_fmtS (d_var ⟨x, rfl, hx⟩) (by omega)) (.cons d_str .nil)) (by simp only [List.map_cons, List.map_nil, List.sum_cons, List.sum_nil, n1l]; omega)
      · rw [List.filter_eq_self.mpr fun _ _ => rfl, List.map_map, List.map_map]
        rfl
    refine ⟨⟨_, rfl⟩, lc H' (Ex.refl H') _ fun u H6 e6 hu => ?_⟩
    cases hu with
    | lst hq hx6 =>
      have := strs_of hx6
      subst this
      refine ⟨_, _, _, rfl, rfl, .inl hq, ?_, q H6 (e3.trans e6)⟩
      have em : (((storyL d).map fun z => js [z, "\n"] Str.empty).map (·.length)).sum ≤ 101 * (storyL d).length := by
        have go : ∀ l : List Str, (∀ z ∈ l, z.length ≤ 100) → ((l.map fun z => js [z, "\n"] Str.empty).map (·.length)).sum ≤ 101 * l.length := fun l => by
          induction l with
          | nil => exact fun _ => Nat.le_refl _
          | cons z l ih =>
            intro h
            have h1 := h z (List.mem_cons_self ..)
            have h2 := ih fun y hy => h y (List.mem_cons_of_mem _ hy)
            rw [List.map_cons, List.map_cons, List.sum_cons, js_len]
            simp only [List.map_cons, List.map_nil, List.sum_cons, List.sum_nil, n1l, List.length_cons]
            have z0 : (Str.empty : Str).length = 0 := rfl
            omega
        exact go _ hl
      have e4 : (("" : Str)).length = 0 := by decide +kernel
      rw [e4]
      omega
end
end K27

set_option maxHeartbeats 4000000
set_option autoImplicit false
/-! the desk's verdicts. -/
namespace K27
open PySem PySem.Spec PyProof.Rows L2 AsSort AsKit AsToo AsObj
open Evl (Ex Ev EvT EvA)
section
variable {P : Program} {w : World} {K : PySem.W.Frag} {mg : Str → Option Value} {base : Heap} {C CL CT CK CD CM CR CN CB : Addr}
def oneD (y : Str) (e : PyData) : Bool := readerD e && decide (letsOf e = y)
def deskRD (y : Str) : PyData → Bool
  | .tuple es => es.all (oneD y)
  | _ => false
theorem deskRD_no {y : Str} {d : PyData} (h : isD "tuple" d = false) : deskRD y d = false := by
  cases d with
  | tuple z => rw [isD_tup1] at h; cases h
  | _ => rfl
def TxRs (d : PyData) : Prop := ∀ es, d = .tuple es → es.length ≤ 40000 ∧ ∀ e ∈ es, TxR e
abbrev sCheckDR : Stmt := top 49
abbrev nCheckDR : List Str := ["letters", "readers", "reader"]
theorem sc_check_dr : FnScope nCheckDR ["letters", "readers"] (defScope sCheckDR) := ⟨rfl, rfl, rfl, by decide +kernel, rfl, by decide +kernel, by decide +kernel⟩
def okR2 : List PyData → Bool
  | [.str y, d] => deskRD y d
  | _ => false
abbrev spXDR (K : PySem.W.Frag) (C : Addr) : Sp := spCk K (fun ds => ∃ y d, ds = [.str y, d] ∧ TxRs d) okR2 C
theorem x_check_dr (D : Df K mg "check_desk_readers" sCheckDR) (c : Ec K mg "BadReaders" CB) (hb : Bl mg) (C1 : Cl P w K mg base 3 "is_reader" (spIsReader K) []) : Klx P w K mg base 4 "check_desk_readers" ["letters", "readers"] (spXDR K CB) := by
  refine klx_of D sc_check_dr (len_ck fun ds ⟨y, d, h, _⟩ => by rw [h]; rfl) (fun _ _ _ _ _ _ us hl => match us, hl with | [_, _], _ => rfl) fun f cdv A outer s H vs Q E hr h => ?_
  obtain ⟨ds, hd, ⟨y, d, rfl, ht⟩, q1, q2⟩ := h
  obtain ⟨v, v2, rfl, h0, h1⟩ := dp2 hd
  refine ⟨_, pss_cons (ps_if (pt_not (pt_val (pe_isi (x := "tuple") (T := "tuple") hb (pv 1)))) (pss_one (ps_raise0 c rfl (takes_of rfl rfl rfl rfl) (by rfl))) pss_nil)
    (pss_one (ps_if (pt_not (pt_val (pe_allL (by rfl) hb (pe_lcn (te := tAndV (tCall (spIsReader K) [] C8.E0 (tCons (tVar 2) tNil)) (tOp rEq (tOp (rIxT K) (tVar 2) (tC (.int 0))) (tVar 0))) 2 sc_check_dr.nd (pi_tup (pv 1)) (fun _ _ _ _ _ => pts_nil)
      (fun _ _ _ _ _ => pe_and (C8.pe_c C1 hr (by decide) (by rfl) (pa_cons (pv 2) pa_nil)) (pe_one (pe_cmpR op_eq (pe_ix (r := rIxT K) ix_tup (pv 2) pe_int (fun _ _ => rfl)) (pv 0) (nomark _)))) (fun _ _ _ _ _ => pg_name sc_check_dr.nd rfl (.inl rfl)) (blkOk_by (N := nCheckDR) (sc := defScope sCheckDR) (own := [("reader", 2)]) (by decide +kernel)) rfl))))
      (pss_one (ps_raise0 c rfl (takes_of rfl rfl rfl rfl) (by rfl))) pss_nil)), ?_⟩
  cases h0
  have a1 : At K (start nCheckDR [.str y, v2]) H 1 d := ⟨_, rfl, h1⟩
  by_cases hs : isD "tuple" d = true
  · obtain ⟨es, rfl⟩ := isD_tup hs
    obtain ⟨hl, ht⟩ := ht es rfl
    refine Evl.q_when (b := !(isD "tuple" (.tuple es))) (Evl.et_not (t_ofB (K := K) (d_isD (d_var a1)))) (fun hb1 H1 e1 => ?_) fun hb1 H1 e1 => ?_
    · rw [isD_tup1] at hb1
      cases hb1
    · have e : ((es.filter fun _ => true).map fun d => PyData.bool (oneD y d)) = (es.map (oneD y)).map PyData.bool := by
        rw [List.filter_eq_self.mpr fun _ _ => rfl, List.map_map]
        rfl
      have ha : (es.map (oneD y)).all id = es.all (oneD y) := by
        rw [List.all_map]
        rfl
      refine Evl.s_if (b := !((es.map (oneD y)).all id)) (Evl.et_not (t_ofB (d_all (bs := es.map (oneD y)) (d_eqTo (d_lcT (fun _ => true) (fun d => PyData.bool (oneD y d)) (d_var (a1.mono e1)) (by omega) (fun _ _ _ => rfl) fun d hd x H2 e2 hx k hk => hk _ rfl (fun H3 e3 Q q => q H3 (Ex.refl H3)) fun _ => ?_) (congrArg PyData.list e))))) (fun hb1 H2 e2 => ?_) fun hb1 H2 e2 => ?_
      · refine d_and (d_call (E := C8.E0) (ds_cons (d_var ⟨x, rfl, hx⟩) ds_nil) ⟨d, rfl, ht d hd⟩) fun hrd => ?_
        obtain ⟨y2, rs, ys, rfl⟩ := reader_parts hrd
        exact d_eqS (d_ixT (d_var ⟨x, rfl, hx⟩) d_int rfl) (d_var ⟨_, rfl, .str y⟩)
      · rw [ha] at hb1
        exact q2 ((Bool.not_eq_true' _).mp hb1) H2 (e1.trans e2)
      · rw [ha] at hb1
        exact q1 ((Bool.not_eq_false' _).mp hb1) H2 (e1.trans e2)
  · have hs : isD "tuple" d = false := by simpa using hs
    exact Evl.q_when (b := !(isD "tuple" d)) (Evl.et_not (t_ofB (K := K) (d_isD (d_var a1)))) (fun hb1 H1 e1 => q2 (deskRD_no hs) H1 e1) fun hb1 => by rw [hs] at hb1; cases hb1
def natOf : PyData → Nat
  | .int i => i.toNat
  | _ => 0
def rowOfD : PyData → List Nat
  | .tuple ns => ns.map natOf
  | _ => []
def boolOf : PyData → Bool
  | .bool b => b
  | _ => false
def machOf : PyData → Mach
  | .tuple [.str y, .tuple rs, .tuple ys] => ⟨y, rs.map rowOfD, ys.map boolOf⟩
  | _ => ⟨"", [], []⟩
theorem rowOf_rowP (r : List Nat) : rowOfD (rowP r) = r := by
  show (r.map fun (n : Nat) => PyData.int n).map natOf = r
  rw [List.map_map]
  refine (List.map_congr_left fun n _ => ?_).trans (List.map_id r)
  show ((n : Int)).toNat = n
  omega
theorem machOf_d (m : Mach) : machOf m.d = m := by
  obtain ⟨y, rs, ys⟩ := m
  show Mach.mk y ((rs.map rowP).map rowOfD) ((ys.map PyData.bool).map boolOf) = _
  rw [List.map_map, List.map_map]
  have e1 : rs.map (rowOfD ∘ rowP) = rs := (List.map_congr_left fun r _ => rowOf_rowP r).trans (List.map_id rs)
  have e2 : ys.map (boolOf ∘ PyData.bool) = ys := (List.map_congr_left fun b _ => rfl).trans (List.map_id ys)
  rw [e1, e2]
theorem ok_desk {y : Str} {ms : List Mach} (h : ∀ m ∈ ms, m.Ok ∧ m.y = y) : deskRD y (.tuple (ms.map Mach.d)) = true := by
  show (ms.map Mach.d).all (oneD y) = true
  refine List.all_eq_true.mpr fun e he => ?_
  obtain ⟨m, hm, rfl⟩ := List.mem_map.mp he
  obtain ⟨h1, h2⟩ := h m hm
  show (readerD m.d && decide (letsOf m.d = y)) = true
  rw [reader_ok h1, show letsOf m.d = m.y from rfl, decide_eq_true h2]
  rfl
abbrev nVerdicts : List Str := ["self", "readers", "reader"]
theorem sc_dverdicts : FnScope nVerdicts ["self", "readers"] (defScope (dm 7)) := ⟨rfl, rfl, rfl, by decide +kernel, rfl, by decide +kernel, by decide +kernel⟩
def spVerdicts (K : PySem.W.Frag) (C CB : Addr) : Sp := fun vs H Q E => ∃ (a ps : Addr) (d : Dk) (v : V) (r : PyData), vs = [.ref a, v] ∧ DkAt K C H a ps d ∧ Dp K H v r ∧ TxRs r ∧ ((deskRD d.y r = false ∧ ∀ H', Ex H H' → E (.ref CB) none H') ∨
  ∃ ms : List Mach, r = .tuple (ms.map Mach.d) ∧ ms.length ≤ 1000 ∧ allIn d.y d.now = true ∧ (∀ m ∈ ms, m.Ok ∧ m.y = d.y) ∧ ∀ u H', Ex H H' → Dp K H' u (.tuple (ms.map fun m => .bool (m.says d.now.cps.toList))) → Q u H')
theorem m_verdicts (c : DkC K C) (D : DfM K C "verdicts" "Desk.verdicts" (dm 7)) (hb : Bl mg) (C1 : Klx P w K mg base 4 "check_desk_readers" ["letters", "readers"] (spXDR K CB)) (C2 : Cl P w K mg base 2 "stand_behind" (spStandBehind K) []) : Mlx P w K mg base 5 C "verdicts" ["self", "readers"] (spVerdicts K C CB) := by
  refine mlx_of c.cl D sc_dverdicts (fun vs H Q E ⟨a, ps, d, v, r, h, _⟩ => by rw [h]; rfl) (fun _ _ _ _ _ _ us hl => match us, hl with | [_, _], _ => rfl) fun f cdv A outer s H vs Q E hr h => ?_
  obtain ⟨a, ps, d, v, r, rfl, hd, hv, ht, o⟩ := h
  obtain ⟨f1, fd1, F1, m1, k1, b1⟩ := C1
  refine ⟨_, pss_cons (ps_expr (pe_call F1 (hr.mono (by decide)) (by rfl) m1 k1 b1 .nil (passes_call (takes_of rfl rfl rfl rfl) fun _ _ _ _ h => h) (pa_cons (pe_fld (pv 0) rfl) (pa_cons (pv 1) pa_nil))))
    (pss_one (ps_ret (pe_tupQ hb (pe_lcn (te := tOp (rIxT K) (tOp (rIxT K) (tVar 2) (tC (.int 2))) (tCall (spStandBehind K) [] C8.E0 (tCons (tVar 2) (tCons (tFld K (tVar 0) "now") tNil)))) 2 sc_dverdicts.nd (pi_tup (pv 1)) (fun _ _ _ _ _ => pts_nil)
      (fun _ _ _ _ _ => pe_ix (r := rIxT K) ix_tup (pe_ix (r := rIxT K) ix_tup (pv 2) pe_int (fun _ _ => rfl)) (C8.pe_c C2 hr (by decide) (by rfl) (pa_cons (pv 2) (pa_cons (pe_fld (pv 0) rfl) pa_nil))) (fun _ _ => rfl)) (fun _ _ _ _ _ => pg_name sc_dverdicts.nd rfl (.inl rfl)) (blkOk_by (N := nVerdicts) (sc := defScope (dm 7)) (own := [("reader", 2)]) (by decide +kernel)) rfl)))), ?_⟩
  obtain ⟨dx, vs, h1, h2, h3⟩ := id hd
  refine ⟨.ref a, rfl, a, C, dx, _, .str d.y, rfl, h1, c.cl, c.nl, rfl, v, rfl, [.str d.y, r], .cons (.str _) (.cons hv .nil), ⟨d.y, r, rfl, ht⟩, fun hok H1 e1 => ?_, fun hno H1 e1 => ?_⟩
  · rcases o with ⟨no, _⟩ | ⟨ms, rfl, hl, hal, hms, q⟩
    · rw [show okR2 [.str d.y, r] = deskRD d.y r from rfl, no] at hok
      cases hok
    · have a1 : At K (start nVerdicts [.ref a, v]) H1 1 (.tuple (ms.map Mach.d)) := ⟨_, rfl, dp_ex e1 hv⟩
      refine AsKit.s_ret (K := K) (d_tupOf (d_eqTo (d_lcT (fun _ => true) (fun r => .bool ((machOf r).says d.now.cps.toList)) (d_var a1) (by rw [List.length_map]; omega) (fun _ _ _ => rfl) fun r hr2 x H2 e2 hx k hk => hk ((wipe (start nVerdicts [.ref a, v]) [2]).set 2 (some x)) rfl (fun H3 e3 Q q => q H3 (Ex.refl H3)) fun _ => ?_) ?_)) fun u H2 e2 hu => q u H2 (e1.trans e2) hu
      · obtain ⟨m, hm, rfl⟩ := List.mem_map.mp hr2
        obtain ⟨om, ym⟩ := hms m hm
        rw [machOf_d]
        have hda : DkAt K C H2 a ps d := (hd.ex e1).ex e2
        have hal2 : allIn m.y d.now = true := by rw [ym]; exact hal
        have hlt := led_lt om d.now.cps.toList 0 (by have := om.n1; omega) fun c hc => of_decide_eq_true (List.all_eq_true.mp hal2 c hc)
        have st : EvD K (tCall (spStandBehind K) [] C8.E0 (tCons (tVar 2) (tCons (tFld K (tVar 0) "now") tNil))) ((wipe (start nVerdicts [.ref a, v]) [2]).set 2 (some x)) H2 (.int (m.led 0 d.now.cps.toList : Nat)) := fun H3 e3 Q3 q3 =>
          (ds_cons (d_var (i := 2) ⟨x, rfl, hx⟩) (ds_cons (d_fn c hda rfl) ds_nil)) H3 e3 _ fun us H4 e4 hus => ⟨m, d.now, by rw [List.append_nil]; exact hus, om, hal2, fun H5 e5 => q3 _ H5 (e4.trans e5) (.int _)⟩
        refine d_ixT (ds := m.ys.map PyData.bool) (i := (m.led 0 d.now.cps.toList : Nat)) (d_ixT (d_var ⟨x, rfl, hx⟩) d_int rfl) st (atI_nat ?_)
        have hl2 : m.led 0 d.now.cps.toList < m.ys.length := by rw [om.ye]; exact hlt
        rw [List.getElem?_map, List.getElem?_eq_getElem hl2]
        show some (PyData.bool _) = some (PyData.bool (m.ys.getD _ false))
        rw [List.getD_eq_getElem?_getD, List.getElem?_eq_getElem hl2]
        rfl
      · rw [List.filter_eq_self.mpr fun _ _ => rfl, List.map_map]
        exact congrArg PyData.list (List.map_congr_left fun m _ => by show PyData.bool ((machOf m.d).says _) = _; rw [machOf_d])
  · rcases o with ⟨no, e⟩ | ⟨ms, rfl, hl, hal, hms, q⟩
    · exact e H1 e1
    · rw [show okR2 [.str d.y, .tuple (ms.map Mach.d)] = deskRD d.y (.tuple (ms.map Mach.d)) from rfl, ok_desk hms] at hno
      cases hno
end
end K27

set_option maxHeartbeats 4000000
set_option autoImplicit false
/-! a story read: its first two lines. -/
namespace K27
open PySem PySem.Spec PyProof.Rows L2 AsSort AsKit AsToo AsObj
open Evl (Ex Ev EvT EvA)
def optS : Option Str → PyData
  | some s => .str s
  | none => .none
/-- the text that a word tells -/
def toldT (w : Str) : Option Str := if w = "" then none else if w = "_" then some "" else some w
/-- what stands behind a key and a blank -/
def wb (key line : Str) : Str := if Txt.startswith line (js [key, " "] Str.empty) = true then cutS line (some ((key.length + 1 : Nat) : Int)) none else ""
theorem wb_len (key line : Str) : (wb key line).length ≤ line.length := by
  unfold wb
  split
  · exact cut_len _ _ _
  · exact Nat.zero_le _
theorem toldT_len {w s : Str} (h : toldT w = some s) : s.length ≤ w.length := by
  unfold toldT at h
  split at h
  · cases h
  · split at h
    · cases h
      exact Nat.zero_le _
    · cases h
      exact Nat.le_refl _
/-- the first two lines: which cannot stand, or the letters and the text -/
def begunL : List Str → Nat ⊕ (Str × Str)
  | [] => .inl 0
  | l0 :: ls => if isLetS (wb "letters" l0) = true then
      (match ls with
      | [] => .inl 1
      | l1 :: _ => (match toldT (wb "text" l1) with
        | none => .inl 1
        | some t => if withinS (wb "letters" l0) t 40 = true then .inr (wb "letters" l0, t) else .inl 1))
    else .inl 0
theorem begun_cons (l0 : Str) (ls : List Str) : begunL (l0 :: ls) = if isLetS (wb "letters" l0) = true then
      (match ls with
      | [] => .inl 1
      | l1 :: _ => (match toldT (wb "text" l1) with
        | none => .inl 1
        | some t => if withinS (wb "letters" l0) t 40 = true then .inr (wb "letters" l0, t) else .inl 1))
    else .inl 0 := rfl
section
variable {P : Program} {w : World} {K : PySem.W.Frag} {mg : Str → Option Value} {base : Heap} {C CL CT CK CD CM CR CN CB CI : Addr}
abbrev sToldText : Stmt := top 50
abbrev sWordBehind : Stmt := top 51
abbrev sBegun : Stmt := top 52
theorem sc_told_text : FnScope ["word"] ["word"] (defScope sToldText) := ⟨rfl, rfl, rfl, by decide +kernel, rfl, by decide +kernel, by decide +kernel⟩
def spToldText (K : PySem.W.Frag) : Sp := fun vs H Q _ => ∃ z : Str, vs = [.str z] ∧ ∀ v H', Ex H H' → Dp K H' v (optS (toldT z)) → Q v H'
theorem c_told_text (D : Df K mg "told_text" sToldText) : Cl P w K mg base 1 "told_text" (spToldText K) [] := by
  refine cl_of D sc_told_text (fun vs H Q E ⟨z, h, _⟩ => by rw [h]; rfl) (fun _ _ _ _ _ _ us hl => match us, hl with | [_], _ => rfl) fun f cdv A outer s H vs Q E hr h => ?_
  obtain ⟨z, rfl, q⟩ := h
  refine ⟨_, pss_cons (ps_if (pt_cmpR op_eq (pv 0) pe_str (nomark _)) (pss_one (ps_ret pe_non)) pss_nil) (pss_one (ps_ret (pe_ifExp (pt_cmpR op_eq (pv 0) pe_str (nomark _)) pe_str (pv 0)))), ?_⟩
  refine Evl.q_when (b := decide (z = "")) (t_ofD (K := K) (d_eqS (d_var ⟨_, rfl, .str z⟩) d_str)) (fun hb1 H1 e1 => ?_) fun hb1 H1 e1 => ?_
  · refine q .non H1 e1 ?_
    unfold toldT
    rw [if_pos (of_decide_eq_true hb1)]
    exact .non
  · have hne := of_decide_eq_false hb1
    refine AsKit.s_ret (K := K) (d := optS (toldT z)) (d_ifE (b := decide (z = "_")) (t_ofD (K := K) (d_eqS (d_var ⟨_, rfl, .str z⟩) d_str)) (fun hb2 => d_eqTo d_str ?_) fun hb2 => d_eqTo (d_var ⟨_, rfl, .str z⟩) ?_) fun v H2 e2 hv => q v H2 (e1.trans e2) hv
    · unfold toldT
      rw [if_neg hne, if_pos (of_decide_eq_true hb2)]
      rfl
    · unfold toldT
      rw [if_neg hne, if_neg (of_decide_eq_false hb2)]
      rfl
theorem sc_word_behind : FnScope ["key", "line"] ["key", "line"] (defScope sWordBehind) := ⟨rfl, rfl, rfl, by decide +kernel, rfl, by decide +kernel, by decide +kernel⟩
def spWordBehind : Sp := fun vs H Q _ => ∃ (k z : Str), vs = [.str k, .str z] ∧ k.length ≤ 100 ∧ z.length ≤ 40000 ∧ ∀ H', Ex H H' → Q (.str (wb k z)) H'
theorem d_starts {σ : L2.St} {H : Hp} {ta tb : TE} {x y : Str} (h : EvD K ta σ H (.str x)) (h2 : EvD K tb σ H (.str y)) : EvD K (tM1 (fun x xs H Q => ∃ a b, x = .str a ∧ xs = [.str b] ∧ Q (.bl (Txt.startswith a b)) H) ta tb) σ H (.bool (Txt.startswith x y)) := fun H1 a Q q =>
  h H1 a _ fun v H2 e hv => by
    cases hv
    exact ⟨⟨_, rfl⟩, h2 H2 (a.trans e) _ fun u H3 e3 hu => by
      cases hu
      exact ⟨_, _, rfl, rfl, q _ H3 (e.trans e3) (.bl _)⟩⟩
theorem c_word_behind (D : Df K mg "word_behind" sWordBehind) (hb : Bl mg) : Cl P w K mg base 1 "word_behind" spWordBehind [] := by
  refine cl_of D sc_word_behind (fun vs H Q E ⟨k, z, h, _⟩ => by rw [h]; rfl) (fun _ _ _ _ _ _ us hl => match us, hl with | [_, _], _ => rfl) fun f cdv A outer s H vs Q E hr h => ?_
  obtain ⟨k, z, rfl, hk, hz, q⟩ := h
  refine ⟨_, pss_one (ps_ret (pe_ifExp (pt_val (pe_m1 PySem.F.slot_str_startswith PySem.F.type_str_startswith mt_startswith (pv 1) (pe_joined (.cons (pe_fmt (pv 0)) (.cons pe_str .nil))))) (pe_slice sl_str (pv 1) (po_some (pe_op op_add (pe_lenS hb (pv 0)) pe_int)) po_none) pe_str)), ?_⟩
  have a0 : At K (start ["key", "line"] [.str k, .str z]) H 0 (.str k) := ⟨_, rfl, .str k⟩
  have a1 : At K (start ["key", "line"] [.str k, .str z]) H 1 (.str z) := ⟨_, rfl, .str z⟩
  have l1 : (" " : Str).length = 1 := by decide +kernel
  refine AsKit.s_ret (K := K) (d := .str (wb k z)) (d_ifE (b := Txt.startswith z (js [k, " "] Str.empty)) (t_ofB (K := K) (d_starts (d_var a1) (d_js (.cons (d_fmtS (d_var a0) (by omega)) (.cons d_str .nil)) (by simp only [List.map_cons, List.map_nil, List.sum_cons, List.sum_nil, l1]; omega)))) (fun hb1 => d_eqTo (d_slS (lo := some ((k.length + 1 : Nat) : Int)) (hi := none) (d_var a1) (p_some (d_eqTo (d_arI (g := fun i j => i + j) (d_lenS (d_var a0) (by omega)) d_int) (by rw [Int.natCast_add]; rfl))) p_none (by omega)) ?_) fun hb1 => d_eqTo d_str ?_) fun v H1 e1 hv => by cases hv; exact q H1 e1
  · unfold wb
    rw [if_pos hb1]
  · unfold wb
    rw [if_neg (by rw [hb1]; decide)]
abbrev nBegun : List Str := ["lines", "letters", "text"]
theorem sc_begun : FnScope nBegun ["lines"] (defScope sBegun) := ⟨rfl, rfl, rfl, by decide +kernel, rfl, by decide +kernel, by decide +kernel⟩
/-- what comes of a story that cannot stand at a line -/
def BadAt (CI : Addr) (n : Nat) (H : Hp) (E : XK) : Prop := ∀ H' d, Ex H H' → H' d = none → E (.ref CI) (some d) (upd H' d (.xd [("at", .int (n : Int))]))
def spBegun (K : PySem.W.Frag) (C CI : Addr) : Sp := fun vs H Q E => ∃ (v : V) (ls : List Str), vs = [v] ∧ Dp K H v (.list (ls.map PyData.str)) ∧ ls.length ≤ 40000 ∧ (∀ z ∈ ls, z.length ≤ 40000) ∧
  (match begunL ls with
  | .inl n => BadAt CI n H E
  | .inr (y, t) => ∀ a ps H', Ex H H' → H a = none → H ps = none → DkAt K C H' a ps ⟨y, t, t, []⟩ → Q (.ref a) H')
theorem x_begun (D : Df K mg "begun_desk" sBegun) (hb : Bl mg) (g40 : Gn mg "LONGEST_TEXT" 40) (cI : AsToA.Et P w K mg base "InvalidDesk" CI) (C1 : Cl P w K mg base 1 "is_letters" (spIsLetters K) []) (C2 : Cl P w K mg base 1 "word_behind" spWordBehind []) (C3 : Cl P w K mg base 1 "told_text" (spToldText K) [])
    (C4 : Cl P w K mg base 2 "is_text_within" (spIsTextWithin K) []) (M : Mkx P w K mg base 4 "Desk" C nInit (spInit K C CL CT)) : Klx P w K mg base 6 "begun_desk" ["lines"] (spBegun K C CI) := by
  refine klx_of D sc_begun (fun vs H Q E ⟨v, ls, h, _⟩ => by rw [h]; rfl) (fun _ _ _ _ _ _ us hl => match us, hl with | [_], _ => rfl) fun f cdv A outer s H vs Q E hr h => ?_
  obtain ⟨v, ls, rfl, hv, hl, hz, o⟩ := h
  refine ⟨_, pss_cons (ps_if (pt_cmpR op_eq (pe_lenQ hb (pv 0)) pe_int (nomark _)) (pss_one (AsToA.ps_raiseA cI (hr.mono (by decide)) rfl (takes_of rfl rfl rfl rfl) (by rfl) pe_int)) pss_nil)
    (pss_cons (ps_set (i := 1) sc_begun.nd rfl (.inl rfl) (C8.pe_c C2 hr (by decide) (by rfl) (pa_cons pe_str (pa_cons (pe_ix (r := rIxL K) ix_list (pv 0) pe_int (fun _ _ => rfl)) pa_nil))))
    (pss_cons (ps_if (pt_not (pt_val (C8.pe_c C1 hr (by decide) (by rfl) (pa_cons (pv 1) pa_nil)))) (pss_one (AsToA.ps_raiseA cI (hr.mono (by decide)) rfl (takes_of rfl rfl rfl rfl) (by rfl) pe_int)) pss_nil)
    (pss_cons (ps_if (pt_cmpR op_eq (pe_lenQ hb (pv 0)) pe_int (nomark _)) (pss_one (AsToA.ps_raiseA cI (hr.mono (by decide)) rfl (takes_of rfl rfl rfl rfl) (by rfl) pe_int)) pss_nil)
    (pss_cons (ps_set (i := 2) sc_begun.nd rfl (.inl rfl) (C8.pe_c C3 hr (by decide) (by rfl) (pa_cons (C8.pe_c C2 hr (by decide) (by rfl) (pa_cons pe_str (pa_cons (pe_ix (r := rIxL K) ix_list (pv 0) pe_int (fun _ _ => rfl)) pa_nil))) pa_nil)))
    (pss_cons (ps_if (pt_not (pt_val (C8.pe_c C4 hr (by decide) (by rfl) (pa_cons (pv 1) (pa_cons (pv 2) (pa_cons (pe_gn g40) pa_nil)))))) (pss_one (AsToA.ps_raiseA cI (hr.mono (by decide)) rfl (takes_of rfl rfl rfl rfl) (by rfl) pe_int)) pss_nil)
    (pss_one (ps_ret (pe_mkx M hr (by decide) (by rfl) (passes_call (takes_of rfl rfl rfl rfl) fun _ _ _ _ h => h) (pa_cons (pv 1) (pa_cons (pv 2) pa_nil)))))))))), ?_⟩
  have a0 : At K (start nBegun [v]) H 0 (.list (ls.map PyData.str)) := ⟨_, rfl, hv⟩
  have wbd : ∀ (σ : L2.St) (G : Hp) (te : TE) (k z : Str), k.length ≤ 100 → z.length ≤ 40000 → EvD K te σ G (.str z) → EvD K (tCall spWordBehind [] C8.E0 (tCons (tC (.str k)) (tCons te tNil))) σ G (.str (wb k z)) := fun σ G te k z hk hz h H1 x Q1 q1 => h H1 x _ fun u H2 e hu => by
    cases hu
    exact ⟨k, z, rfl, hk, hz, fun H3 e3 => q1 _ H3 (e.trans e3) (.str _)⟩
  have k7 : ("letters" : Str).length ≤ 100 := by decide +kernel
  have k4 : ("text" : Str).length ≤ 100 := by decide +kernel
  have bad : ∀ (n : Int) (m : Nat) (G : Hp), n = (m : Int) → n.natAbs.log2 < 100 → Ex H G → BadAt CI m H E → AsToA.InT K CI (fun d H' => E (.ref CI) (some d) H') (.int n) G := fun n m G en hl2 e b => by
    subst en
    exact AsToA.inT_of hl2 fun d nd => b G d e nd
  refine Evl.q_when (b := decide ((((ls.map PyData.str).length : Nat) : Int) = 0)) (t_ofD (K := K) (d_eqI (d_lenL (d_var a0)) d_int)) (fun hb1 H1 e1 => ?_) fun hb1 H1 e1 => ?_
  · have : ls = [] := by
      have := of_decide_eq_true hb1
      rw [List.length_map] at this
      exact List.length_eq_zero_iff.mp (by omega)
    subst this
    exact bad 0 0 H1 rfl (by decide) e1 o
  · obtain ⟨l0, ls, rfl⟩ : ∃ l0 l, ls = l0 :: l := by
      cases ls with
      | nil => cases hb1
      | cons a l => exact ⟨a, l, rfl⟩
    have hz0 := hz l0 (List.mem_cons_self ..)
    refine AsKit.q_asg (K := K) (wbd _ _ _ "letters" l0 k7 hz0 (d_ixL (i := 0) (d_var (a0.mono e1)) d_int (show atI _ ((0 : Nat) : Int) = _ from atI_nat rfl))) fun v1 H2 e2 hv1 => ?_
    cases hv1
    have e12 := e1.trans e2
    have wl := wb_len "letters" l0
    refine Evl.q_when (b := !(isLettersD (.str (wb "letters" l0)))) (Evl.et_not (t_ofB (K := K) (d_call (ds_cons (d_var (i := 1) ⟨_, rfl, .str _⟩) ds_nil) ⟨_, rfl, fun z e => by cases e; omega⟩))) (fun hb2 H3 e3 => ?_) fun hb2 H3 e3 => ?_
    · have hf : isLetS (wb "letters" l0) = false := (Bool.not_eq_true' _).mp hb2
      have eb : begunL (l0 :: ls) = .inl 0 := by rw [begun_cons, if_neg (by rw [hf]; decide)]
      rw [eb] at o
      exact bad 0 0 H3 rfl (by decide) (e12.trans e3) o
    · have ht : isLetS (wb "letters" l0) = true := (Bool.not_eq_false' _).mp hb2
      have e13 := e12.trans e3
      have a03 : At K ((start nBegun [v]).set 1 (some (.str (wb "letters" l0)))) H3 0 (.list ((l0 :: ls).map PyData.str)) := ⟨_, rfl, dp_ex e13 hv⟩
      refine Evl.q_when (b := decide (((((l0 :: ls).map PyData.str).length : Nat) : Int) = 1)) (t_ofD (K := K) (d_eqI (d_lenL (d_var a03)) d_int)) (fun hb3 H4 e4 => ?_) fun hb3 H4 e4 => ?_
      · have : ls = [] := by
          have := of_decide_eq_true hb3
          rw [List.length_map, List.length_cons] at this
          exact List.length_eq_zero_iff.mp (by omega)
        subst this
        have eb : begunL [l0] = .inl 1 := by rw [begun_cons, if_pos ht]
        rw [eb] at o
        exact bad 1 1 H4 rfl (by decide) (e13.trans e4) o
      · obtain ⟨l1, ls, rfl⟩ : ∃ l1 l, ls = l1 :: l := by
          cases ls with
          | nil => cases hb3
          | cons a l => exact ⟨a, l, rfl⟩
        have hz1 := hz l1 (by simp)
        have e14 := e13.trans e4
        have wl1 := wb_len "text" l1
        have tt : EvD K (tCall (spToldText K) [] C8.E0 (tCons (tCall spWordBehind [] C8.E0 (tCons (tC (.str "text")) (tCons (tOp (rIxL K) (tVar 0) (tC (.int 1))) tNil))) tNil)) ((start nBegun [v]).set 1 (some (.str (wb "letters" l0)))) H4 (optS (toldT (wb "text" l1))) := fun H5 x Q5 q5 =>
          wbd _ _ _ "text" l1 k4 hz1 (d_ixL (i := 1) (d_var (a03.mono e4)) d_int (show atI _ ((1 : Nat) : Int) = _ from atI_nat rfl)) H5 x _ fun u H6 e6 hu => by
            cases hu
            exact ⟨_, rfl, fun v7 H7 e7 h7 => q5 v7 H7 (e6.trans e7) h7⟩
        refine AsKit.q_asg (K := K) tt fun v2 H5 e5 hv2 => ?_
        have e15 := e14.trans e5
        have c1 : At K (((start nBegun [v]).set 1 (some (.str (wb "letters" l0)))).set 2 (some v2)) H5 1 (.str (wb "letters" l0)) := ⟨_, rfl, .str _⟩
        have c2 : At K (((start nBegun [v]).set 1 (some (.str (wb "letters" l0)))).set 2 (some v2)) H5 2 (optS (toldT (wb "text" l1))) := ⟨_, rfl, hv2⟩
        have txo : Tx (optS (toldT (wb "text" l1))) := fun z e => by
          cases q : toldT (wb "text" l1) with
          | none => rw [q] at e; cases e
          | some s =>
            rw [q] at e
            cases e
            have := toldT_len q
            omega
        refine Evl.q_when (b := !(withinD (wb "letters" l0) 40 (optS (toldT (wb "text" l1))))) (Evl.et_not (t_ofB (K := K) (d_call (ds_cons (d_var c1) (ds_cons (d_var c2) (ds_cons d_int ds_nil))) ⟨_, _, 40, rfl, txo⟩))) (fun hb4 H6 e6 => ?_) fun hb4 H6 e6 => ?_
        · have hf : withinD (wb "letters" l0) 40 (optS (toldT (wb "text" l1))) = false := (Bool.not_eq_true' _).mp hb4
          have eb : begunL (l0 :: l1 :: ls) = .inl 1 := by
            rw [begun_cons, if_pos ht]
            cases q : toldT (wb "text" l1) with
            | none => simp only [q]
            | some s =>
              rw [q] at hf
              have hf : withinS (wb "letters" l0) s 40 = false := hf
              simp only [q]
              rw [if_neg (by rw [hf]; decide)]
          rw [eb] at o
          exact bad 1 1 H6 rfl (by decide) (e15.trans e6) o
        · have hw : withinD (wb "letters" l0) 40 (optS (toldT (wb "text" l1))) = true := (Bool.not_eq_false' _).mp hb4
          cases q : toldT (wb "text" l1) with
          | none => rw [q] at hw; cases hw
          | some t =>
            rw [q] at hw hv2
            have hw : withinS (wb "letters" l0) t 40 = true := hw
            have eb : begunL (l0 :: l1 :: ls) = .inr (wb "letters" l0, t) := by
              rw [begun_cons, if_pos ht]
              simp only [q]
              rw [if_pos hw]
            rw [eb] at o
            have e16 := e15.trans e6
            have hv26 : Dp K H6 v2 (.str t) := dp_ex e6 hv2
            refine ⟨_, rfl, v2, rfl, fun x dx nx ndx ne => ?_⟩
            have xe : Ex H6 (upd (upd H6 dx (.own x)) x (.ins C dx [])) := (Ex.new ndx).trans (Ex.new ((upd_ne (fun e => ne e.symm)).trans nx))
            refine ⟨x, .str (wb "letters" l0), .str t, .str (wb "letters" l0), v2, dx, rfl, .str _, dp_ex xe hv26, upd_same, fun z e => by cases e; omega, fun hn => ?_, fun y ey hy => ⟨fun z e => ?_, fun hn => ?_, fun z ez hwz H7 e7 H8 ps keep nps hdk => ⟨rfl, ?_⟩⟩⟩
            · rw [show isLettersD (.str (wb "letters" l0)) = isLetS (wb "letters" l0) from rfl, ht] at hn
              cases hn
            · cases e
              have := toldT_len q
              omega
            · cases ey
              rw [show withinD (wb "letters" l0) 40 (.str t) = withinS (wb "letters" l0) t 40 from rfl, hw] at hn
              cases hn
            · cases ey
              cases ez
              have hx0 : H x = none := by
                cases z : H x with
                | none => rfl
                | some u => rw [e16 x u z] at nx; cases nx
              have hps0 : H ps = none := by
                cases z : H ps with
                | none => rfl
                | some u => rw [e7 ps u (xe ps u (e16 ps u z))] at nps; cases nps
              refine o x ps H8 (fun b u hbu => keep b u (fun e => by rw [e, hx0] at hbu; cases hbu) (e7 b u (xe b u (e16 b u hbu)))) hx0 hps0 hdk
end
end K27

set_option maxHeartbeats 4000000
set_option autoImplicit false
/-! texts split; texts in lists of texts; tuples joined and cut; as data. -/
namespace AsKit
open PySem PySem.Spec PyProof.Rows L2 AsSort
open Evl (Ex Ev EvT EvA)
section
variable {K : PySem.W.Frag} {σ : L2.St} {H : Hp} {te ta tb : TE} {t : TT} {d : PyData} {ds es : List PyData}
theorem dp_strs3 {G : Hp} : ∀ zs : List Str, DpAll K G (zs.map V.str) (zs.map PyData.str)
  | [] => .nil
  | z :: zs => .cons (.str z) (dp_strs3 zs)
abbrev rSplit : V → List V → Hp → VK → Prop := fun x xs H Q => ∃ a b, x = .str a ∧ xs = [.str b] ∧ (b.length == 0) = false ∧ a.length + 2 ≤ sizeLine ∧ rNewStrs (Txt.split a b) H Q
theorem d_split {x y : Str} (h : EvD K ta σ H (.str x)) (h2 : EvD K tb σ H (.str y)) (hy : (y.length == 0) = false) (hx : x.length ≤ 90000) : EvD K (tM1 rSplit ta tb) σ H (.list ((Txt.split x y).map PyData.str)) := fun H1 a Q q =>
  h H1 a _ fun v H2 e hv => by
    cases hv
    exact ⟨⟨_, rfl⟩, h2 H2 (a.trans e) _ fun u H3 e3 hu => by
      cases hu
      exact ⟨_, _, rfl, rfl, hy, Evl.sz_of (by omega), fun p np => q _ _ ((e.trans e3).trans (Ex.new np)) (.lst (Evl.sq_of upd_same) (dp_strs3 _))⟩⟩
abbrev rStrI : List V → Hp → VK → Prop := fun xs H Q => ∃ i, xs = [.int i] ∧ i.natAbs.log2 < 1920 ∧ Q (.str (toString i)) H
theorem d_strI {i : Int} (h : EvD K ta σ H (.int i)) (hi : i.natAbs.log2 < 1920) : EvD K (tCB rStrI (tCons ta tNil)) σ H (.str (toString i)) := fun H1 a Q q =>
  h H1 a _ fun v H2 e hv => by
    cases hv
    exact ⟨i, rfl, hi, q _ H2 e (.str _)⟩
theorem flat_strs (zs : List Str) : (zs.map V.str).all flatV = true := List.all_eq_true.mpr fun v hv => by
  obtain ⟨z, _, rfl⟩ := List.mem_map.mp hv
  rfl
theorem in_strs (w : Str) (zs : List Str) : inV (.str w) (zs.map V.str) = decide (w ∈ zs) := by
  unfold inV
  rw [List.any_map]
  have e : ((fun y => eqV y (.str w)) ∘ V.str) = fun z : Str => z == w := rfl
  rw [e]
  by_cases h : w ∈ zs
  · rw [decide_eq_true h]
    exact List.any_eq_true.mpr ⟨w, h, beq_self_eq_true w⟩
  · rw [decide_eq_false h]
    refine List.any_eq_false.mpr fun z hz => ?_
    intro e
    rw [eq_of_beq e] at hz
    exact h hz
/-- w in zs, w not in zs: texts -/
theorem d_inSs {w : Str} {zs : List Str} {neg : Bool} (h : EvD K ta σ H (.str w)) (h2 : EvD K tb σ H (.list (zs.map PyData.str))) : EvD K (tOp (rIn K neg) ta tb) σ H (.bool (if neg then !decide (w ∈ zs) else decide (w ∈ zs))) := fun H1 a Q q =>
  h H1 a _ fun v H2 e hv => h2 H2 (a.trans e) _ fun u H3 e3 hu => by
    cases hv
    cases hu with
    | lst hs hx =>
      have ex := strs_of hx
      subst ex
      exact ⟨_, _, rfl, .inl hs, rfl, flat_strs zs, by rw [in_strs]; exact q _ H3 (e.trans e3) (.bl _)⟩
/-- zs.index(w) -/
theorem d_indexS {w : Str} {zs : List Str} {j : Nat} (h : EvD K ta σ H (.list (zs.map PyData.str))) (h2 : EvD K tb σ H (.str w)) (hj : zs[j]? = some w) (hno : ∀ m, m < j → zs[m]? ≠ some w) : EvD K (tBM K "list" (rIndex K) ta (tCons tb tNil)) σ H (.int (j : Nat)) := fun H1 a Q q =>
  h H1 a _ fun v H2 e hv => by
    cases hv with
    | lst hs hx =>
      have ex := strs_of hx
      subst ex
      refine ⟨.inl ⟨rfl, _, hs⟩, h2 H2 (a.trans e) _ fun u H3 e3 hu => ?_⟩
      cases hu
      refine ⟨_, _, .str w, j, .str w, rfl, rfl, Evl.ex_l e3 hs, rfl, flat_strs zs, by rw [List.getElem?_map, hj]; rfl, by show (w == w) = true; exact beq_self_eq_true w, fun m z' hm hz => ?_, q _ H3 (e.trans e3) (.int _)⟩
      rw [List.getElem?_map] at hz
      cases hk : zs[m]? with
      | none => rw [hk] at hz; cases hz
      | some y =>
        rw [hk] at hz
        cases hz
        show (y == w) = false
        cases hb : (y == w) with
        | false => rfl
        | true => exact absurd (by rw [hk, eq_of_beq hb]) (hno m hm)
/-- tuples joined -/
theorem d_catT (h : EvD K ta σ H (.tuple ds)) (h2 : EvD K tb σ H (.tuple es)) (n1 : ds ≠ []) (n2 : es ≠ []) (hl : ds.length + es.length ≤ 1000) : EvD K (tOp (rCatT K) ta tb) σ H (.tuple (ds ++ es)) := fun H1 a Q q =>
  h H1 a _ fun v H2 e hv => h2 H2 (a.trans e) _ fun u H3 e3 hu => by
    cases hv with
    | tup hs hx =>
      cases hu with
      | tup hs2 hx2 =>
        rename_i p xs p2 ys
        have l1 : xs.length = ds.length := dpAll_len hx
        have l2 : ys.length = es.length := dpAll_len hx2
        have app : ∀ {G : Hp} {ws : List V} {es : List PyData}, DpAll K G ws es → ∀ {vs : List V} {ds : List PyData}, DpAll K G vs ds → DpAll K G (vs ++ ws) (ds ++ es) := by
          intro G ws es h2 vs
          induction vs with
          | nil => intro ds h; cases h; exact h2
          | cons v vs ih => intro ds h; cases h with | cons a b => exact .cons a (ih b)
        have ne : ys ≠ [] := fun z => by
          rw [z] at l2
          exact n2 (List.length_eq_zero_iff.mp l2.symm)
        have ne1 : xs ≠ [] := fun z => by
          rw [z] at l1
          exact n1 (List.length_eq_zero_iff.mp l1.symm)
        exact ⟨p, p2, xs, ys, rfl, rfl, Evl.ex_t e3 hs, hs2, ne1, Evl.sz_of (by omega), fun z => (ne z).elim, fun _ l hl => q _ _ ((e.trans e3).trans (Ex.new hl)) (.tup (Evl.st_of upd_same) (dpAll_ex (Ex.new hl) (app hx2 (dpAll_ex e3 hx))))⟩
/-- t[1:], t of three -/
theorem d_sl13 {tl th : TO} {a b c : PyData} (h : EvD K ta σ H (.tuple [a, b, c])) (h1 : EvP K tl σ H (some 1)) (h2 : EvP K th σ H none) : EvD K (tSl (rSlT K) ta tl th) σ H (.tuple [b, c]) := fun H1 x Q q =>
  h H1 x _ fun v H2 e hv => h1 H2 (x.trans e) _ fun H3 e3 => h2 H3 ((x.trans e).trans e3) _ fun H4 e4 => by
    cases hv with
    | tup hs hx =>
      cases hx with
      | cons ha hx =>
        cases hx with
        | cons hb hx =>
          cases hx with
          | cons hc hx =>
            cases hx
            rename_i p va vb vc
            refine ⟨p, [va, vb, vc], rfl, Evl.ex_t (e3.trans e4) hs, fun z => ?_, fun l nl => ?_⟩
            · have z1 : (1 : Nat) = 0 := z.1
              omega
            · have ec : cutV [va, vb, vc] (some 1) none = [vb, vc] := rfl
              rw [ec]
              have ex : Ex H2 (upd H4 l (.tup [vb, vc])) := (e3.trans e4).trans (Ex.new nl)
              exact q _ _ (e.trans ex) (.tup (Evl.st_of upd_same) (.cons (dp_ex ex hb) (.cons (dp_ex ex hc) .nil)))
end
end AsKit

set_option maxHeartbeats 4000000
set_option autoImplicit false
/-! a story read: a line that tells a deed. -/
namespace K27
open PySem PySem.Spec PyProof.Rows L2 AsSort AsKit AsToo AsObj
open Evl (Ex Ev EvT EvA)
def placesL (t : Str) : List Str := (List.range (t.length + 1)).map intS
def lookP (t w : Str) : Option Nat := (List.range (t.length + 1)).find? fun p => decide (intS p = w)
def kindS (y : Str) (k : Str × Str) : Bool := (withinS y k.1 3 && withinS y k.2 1) && !decide (k.1 = k.2)
/-- the deed that a line tells of the text t -/
def toldD (y t : Str) (ws : List Str) : Option (Nat × (Str × Str)) := match ws with
  | [w0, w1, w2, w3] => if w2 = ">" then (match lookP t w0, toldT w1, toldT w3 with
    | some p, some l, some r => if (kindS y (l, r) && (hitB t p (l, r) && decide ((bhS t p (l, r)).length ≤ 40))) = true then some (p, (l, r)) else none
    | _, _, _ => none) else none
  | _ => none
theorem lookP_some {t w : Str} {p : Nat} (h : lookP t w = some p) : p ≤ t.length ∧ intS p = w ∧ ∀ m, m < p → intS m ≠ w := by
  unfold lookP at h
  have h1 := List.find?_some h
  have h2 := List.mem_of_find?_eq_some h
  refine ⟨by have := List.mem_range.mp h2; omega, of_decide_eq_true h1, fun m hm e => ?_⟩
  obtain ⟨_, as, bs, e1, e2⟩ := List.find?_eq_some_iff_append.mp h
  have hlen : as.length = p := by
    have z := congrArg (fun l : List Nat => l[as.length]?) e1
    simp only [List.getElem?_append_right (Nat.le_refl _), Nat.sub_self, List.getElem?_cons_zero] at z
    have hb : as.length < t.length + 1 := by
      have := congrArg List.length e1
      rw [List.length_range, List.length_append, List.length_cons] at this
      omega
    rw [List.getElem?_range hb] at z
    exact Option.some.inj z
  have hm2 : m ∈ as := by
    have z : (List.range (t.length + 1))[m]? = (as ++ p :: bs)[m]? := by rw [e1]
    rw [List.getElem?_append_left (by omega), List.getElem?_range (by have := List.mem_range.mp h2; omega)] at z
    exact List.mem_of_getElem? z.symm
  have := e2 m hm2
  rw [decide_eq_true e] at this
  cases this
theorem lookP_none {t w : Str} (h : lookP t w = none) : w ∉ placesL t := fun hm => by
  obtain ⟨p, hp, e⟩ := List.mem_map.mp hm
  unfold lookP at h
  have := List.find?_eq_none.mp h p hp
  rw [decide_eq_true e] at this
  exact this rfl
theorem lookP_mem {t w : Str} {p : Nat} (h : lookP t w = some p) : w ∈ placesL t := by
  obtain ⟨h1, h2, _⟩ := lookP_some h
  exact List.mem_map.mpr ⟨p, List.mem_range.mpr (by omega), h2⟩
theorem kindD_opt (y : Str) (a b : Option Str) : kindD y (.tuple [optS a, optS b]) = match a, b with
    | some l, some r => kindS y (l, r)
    | _, _ => false := by
  cases a with
  | none => rfl
  | some l =>
    cases b with
    | none =>
      show ((withinD y 3 (.str l) && withinD y 1 .none) && neS (.str l) .none) = false
      rw [show withinD y 1 .none = false from rfl, Bool.and_false, Bool.false_and]
    | some r => rfl
theorem hitB_le {t : Str} {p : Nat} {k : Str × Str} (hk : k.1.length = 0 → True) (h : hitB t p k = true) (hp : p ≤ t.length) : dD p k ∈ deedsL [k] t := by
  unfold deedsL hitsTo
  refine List.mem_flatMap.mpr ⟨p, List.mem_range.mpr (by omega), ?_⟩
  unfold hits
  refine List.mem_map.mpr ⟨k, List.mem_filter.mpr ⟨?_, h⟩, rfl⟩
  show k ∈ sortO [k]
  unfold sortO
  rw [List.mergeSort_singleton]
  exact List.mem_singleton.mpr rfl
theorem hit_of {t : Str} {p : Nat} {k : Str × Str} (h : dD p k ∈ deedsL [k] t) : hitB t p k = true ∧ p ≤ t.length := by
  unfold deedsL hitsTo at h
  obtain ⟨q, hq, h⟩ := List.mem_flatMap.mp h
  unfold hits at h
  obtain ⟨m, hm, e⟩ := List.mem_map.mp h
  obtain ⟨e1, e2⟩ := dD_inj e
  subst e1 e2
  exact ⟨(List.mem_filter.mp hm).2, by have := List.mem_range.mp hq; omega⟩
section
variable {P : Program} {w : World} {K : PySem.W.Frag} {mg : Str → Option Value} {base : Heap}
abbrev sToldDeed : Stmt := top 53
abbrev nToldDeed : List Str := ["letters", "text", "line", "words", "places", "place", "kind", "deed"]
theorem sc_told_deed : FnScope nToldDeed ["letters", "text", "line"] (defScope sToldDeed) := ⟨rfl, rfl, rfl, by decide +kernel, rfl, by decide +kernel, by decide +kernel⟩
def optK : Option (Nat × (Str × Str)) → PyData
  | some d => dD d.1 d.2
  | none => .none
def spToldDeed (K : PySem.W.Frag) : Sp := fun vs H Q _ => ∃ (y t z : Str), vs = [.str y, .str t, .str z] ∧ PyData.strOk y = true ∧ t.length ≤ 40 ∧ z.length ≤ 40000 ∧ ∀ v H', Ex H H' → Dp K H' v (optK (toldD y t (Txt.split z " "))) → Q v H'
theorem kindS_in {y : Str} {k : Str × Str} (h : kindS y k = true) : k.1.length ≤ 3 ∧ k.2.length ≤ 1 ∧ allIn y k.1 = true ∧ allIn y k.2 = true ∧ k.1 ≠ k.2 := by
  unfold kindS withinS at h
  simp only [Bool.and_eq_true, decide_eq_true_eq, Bool.not_eq_true', decide_eq_false_iff_not] at h
  obtain ⟨⟨⟨a, b⟩, c, d⟩, e⟩ := h
  exact ⟨by omega, by omega, b, d, e⟩
theorem c_told_deed (D : Df K mg "told_deed" sToldDeed) (hb : Bl mg) (g40 : Gn mg "LONGEST_TEXT" 40) (C1 : Cl P w K mg base 1 "told_text" (spToldText K) []) (C2 : Cl P w K mg base 3 "is_kind" (spIsKind K) []) (C3 : Cl P w K mg base 6 "is_deed_on" (spIsDeedOn K) []) (C4 : Cl P w K mg base 1 "text_behind" (spTextBehind K) []) :
    Cl P w K mg base 7 "told_deed" (spToldDeed K) [] := by
  refine cl_of D sc_told_deed (fun vs H Q E ⟨y, t, z, h, _⟩ => by rw [h]; rfl) (fun _ _ _ _ _ _ us hl => match us, hl with | [_, _, _], _ => rfl) fun f cdv A outer s H vs Q E hr h => ?_
  obtain ⟨y, t, z, rfl, hso, ht, hz, q⟩ := h
  refine ⟨_, pss_cons (ps_set (i := 3) sc_told_deed.nd rfl (.inl rfl) (pe_split (pv 2) pe_str))
    (pss_cons (ps_if (pw_or (pt_cmpR op_ne (pe_lenQ hb (pv 3)) pe_int (nomark _)) (pw_or1 (pt_cmpR op_ne (pe_ix (r := rIxL K) ix_list (pv 3) pe_int (fun _ _ => rfl)) pe_str (nomark _)))).pt (pss_one (ps_ret pe_non)) pss_nil)
    (pss_cons (ps_setLcn (i := 4) 5 sc_told_deed.nd (pi_range1 (by rfl) (hb _ (by decide +kernel)) (pa_cons (pe_op op_add (pe_lenS hb (pv 1)) pe_int) pa_nil)) (fun _ _ _ _ _ => pts_nil) (fun _ _ _ _ _ => pe_callTy call_str_int (by rfl) (hb _ (by decide +kernel)) (by decide +kernel) (pa_cons (pv 5) pa_nil)) (fun _ _ _ _ _ => pg_name sc_told_deed.nd rfl (.inl rfl)) (blkOk_by (N := nToldDeed) (sc := defScope sToldDeed) (own := [("place", 5)]) (by decide +kernel)) rfl rfl rfl (sw_true rfl rfl rfl (by decide +kernel)))
    (pss_cons (ps_set (i := 6) sc_told_deed.nd rfl (.inl rfl) (pe_tup (pa_cons (C8.pe_c C1 hr (by decide) (by rfl) (pa_cons (pe_ix (r := rIxL K) ix_list (pv 3) pe_int (fun _ _ => rfl)) pa_nil)) (pa_cons (C8.pe_c C1 hr (by decide) (by rfl) (pa_cons (pe_ix (r := rIxL K) ix_list (pv 3) pe_int (fun _ _ => rfl)) pa_nil)) pa_nil))))
    (pss_cons (ps_if (pw_or (pt_cmpR op_notIn_seq (pe_ix (r := rIxL K) ix_list (pv 3) pe_int (fun _ _ => rfl)) (pv 4) rfl) (pw_or1 (pt_not (pt_val (C8.pe_c C2 hr (by decide) (by rfl) (pa_cons (pv 0) (pa_cons (pv 6) pa_nil))))))).pt (pss_one (ps_ret pe_non)) pss_nil)
    (pss_cons (ps_set (i := 7) sc_told_deed.nd rfl (.inl rfl) (pe_op op_catT (pe_tup (pa_cons (pe_bm PySem.F.plainAttrs_list PySem.F.slot_list_index PySem.F.type_list_index mt_index (pv 4) (pa_cons (pe_ix (r := rIxL K) ix_list (pv 3) pe_int (fun _ _ => rfl)) pa_nil)) pa_nil)) (pv 6)))
    (pss_cons (ps_if (pw_or (pt_not (pt_val (C8.pe_c C3 hr (by decide) (by rfl) (pa_cons (pe_tup (pa_cons (pv 6) pa_nil)) (pa_cons (pv 1) (pa_cons (pv 7) pa_nil)))))) (pw_or1 (pt_cmpR op_gt (pe_lenS hb (C8.pe_c C4 hr (by decide) (by rfl) (pa_cons (pv 1) (pa_cons (pv 7) pa_nil)))) (pe_gn g40) (nomark _)))).pt (pss_one (ps_ret pe_non)) pss_nil)
    (pss_one (ps_ret (pv 7))))))))), ?_⟩
  have b1 : ((" " : Str).length == 0) = false := by decide +kernel
  have base0 : ∀ (x3 x4 x5 x6 x7 : Option V) (G : Hp), At K [some (.str y), some (.str t), some (.str z), x3, x4, x5, x6, x7] G 0 (.str y) ∧ At K [some (.str y), some (.str t), some (.str z), x3, x4, x5, x6, x7] G 1 (.str t) ∧ At K [some (.str y), some (.str t), some (.str z), x3, x4, x5, x6, x7] G 2 (.str z) := fun _ _ _ _ _ G => ⟨⟨_, rfl, .str y⟩, ⟨_, rfl, .str t⟩, ⟨_, rfl, .str z⟩⟩
  refine AsKit.q_asg (K := K) (d := .list ((Txt.split z " ").map PyData.str)) (d_split (d_var (base0 _ _ _ _ _ _).2.2) d_str b1 (by omega)) fun v3 H1 e1 hv3 => ?_
  obtain ⟨ws, ews⟩ : ∃ ws, ws = Txt.split z " " := ⟨_, rfl⟩
  have wl : ∀ u ∈ ws, u.length ≤ 40000 := fun u hu => by
    rw [ews] at hu
    have := PyProof.Rows.part_short hu
    omega
  rw [← ews] at hv3 q
  have a3 : ∀ (x4 x5 x6 x7 : Option V) (G : Hp), Ex H1 G → At K [some (.str y), some (.str t), some (.str z), some v3, x4, x5, x6, x7] G 3 (.list (ws.map PyData.str)) := fun _ _ _ _ G e => ⟨_, rfl, dp_ex e hv3⟩
  have no : ∀ G, Ex H G → toldD y t ws = none → Q .non G := fun G e hn => q .non G e (by rw [hn]; exact .non)
  by_cases h4 : ws.length = 4
  · obtain ⟨w0, w1, w2, w3, rfl⟩ : ∃ a b c d, ws = [a, b, c, d] := by
      match ws, h4 with
      | [a, b, c, d], _ => exact ⟨a, b, c, d, rfl⟩
    clear h4
    have ixw : ∀ (i : Nat) (u : Str), ([w0, w1, w2, w3] : List Str)[i]? = some u → ∀ (x4 x5 x6 x7 : Option V) (G : Hp), Ex H1 G → EvD K (tOp (rIxL K) (tVar 3) (tC (.int (i : Int)))) [some (.str y), some (.str t), some (.str z), some v3, x4, x5, x6, x7] G (.str u) := fun i u hi x4 x5 x6 x7 G e => d_ixL (i := (i : Int)) (d_var (a3 x4 x5 x6 x7 G e)) d_int (atI_nat (by rw [List.getElem?_map, hi]; rfl))
    refine Evl.q_when (b := !decide (((([w0, w1, w2, w3] : List Str).map PyData.str).length : Int) = 4) || !decide (w2 = ">")) (Evl.et_or (t_ofD (K := K) (d_neI (d_lenL (d_var (a3 _ _ _ _ _ (Ex.refl H1)))) d_int)) fun _ => t_ofD (K := K) (d_neS (ixw 2 w2 rfl _ _ _ _ _ (Ex.refl H1)) d_str)) (fun hb1 H2 e2 => ?_) fun hb1 H2 e2 => ?_
    · have hb1 : (!decide (w2 = ">")) = true := hb1
      have hne : ¬ w2 = ">" := by simpa using hb1
      refine no H2 (e1.trans e2) ?_
      show (if w2 = ">" then _ else none) = none
      rw [if_neg hne]
    · have hb1 : (!decide (w2 = ">")) = false := hb1
      have hw2 : w2 = ">" := by simpa using hb1
      have etd : toldD y t [w0, w1, w2, w3] = (match lookP t w0, toldT w1, toldT w3 with
        | some p, some l, some r => if (kindS y (l, r) && (hitB t p (l, r) && decide ((bhS t p (l, r)).length ≤ 40))) = true then some (p, (l, r)) else none
        | _, _, _ => none) := by
        show (if w2 = ">" then _ else none) = _
        rw [if_pos hw2]
      have e12 := e1.trans e2
      have epl : ((((rngD 0 ((t.length : Int) + 1).toNat).filter fun _ => true).map fun d => match d with
          | .int i => PyData.str (toString i)
          | _ => .none)) = (placesL t).map PyData.str := by
        unfold rngD placesL
        rw [List.filter_eq_self.mpr fun _ _ => rfl, List.map_map, List.map_map, show ((t.length : Int) + 1).toNat = t.length + 1 by omega]
        exact List.map_congr_left fun i _ => by show PyData.str (toString ((0 : Int) + (i : Int))) = PyData.str (intS i); rw [Int.zero_add]; rfl
      have hn1 : (-1000 : Int) ≤ (t.length : Int) + 1 ∧ (t.length : Int) + 1 ≤ 40000 := by omega
      refine AsKit.q_asg (K := K) (d := .list ((placesL t).map PyData.str)) (d_eqTo (d_lcR1 (hi := (t.length : Int) + 1) (fun _ => true) (fun d => match d with
          | .int i => PyData.str (toString i)
          | _ => .none) (ds_cons (d_arI (g := fun i j => i + j) (d_lenS (d_var (base0 _ _ _ _ _ _).2.1) (by omega)) d_int) ds_nil) hn1 (fun d hd _ => ?_) (fun i hi x G e hx k hk => ?_)) (congrArg PyData.list epl)) fun v4 H3 e3 hv4 => ?_
      · obtain ⟨i, _, rfl⟩ := List.mem_map.mp hd
        rfl
      · refine hk _ rfl (fun H3 e3 Q q => q H3 (Ex.refl H3)) fun _ => ?_
        exact d_strI (d_var ⟨x, rfl, hx⟩) (by have := log_small i (by omega); rw [Int.zero_add]; exact this)
      have e13 := e12.trans e3
      have tt : ∀ (i : Nat) (u : Str), ([w0, w1, w2, w3] : List Str)[i]? = some u → ∀ (x4 x5 x6 x7 : Option V) (G : Hp), Ex H1 G → EvD K (tCall (spToldText K) [] C8.E0 (tCons (tOp (rIxL K) (tVar 3) (tC (.int (i : Int)))) tNil)) [some (.str y), some (.str t), some (.str z), some v3, x4, x5, x6, x7] G (optS (toldT u)) := fun i u hi x4 x5 x6 x7 G e G1 x Q1 q1 => ixw i u hi x4 x5 x6 x7 G e G1 x _ fun v5 G2 e5 hu => by
        cases hu
        exact ⟨u, rfl, fun v6 G3 e6 h6 => q1 v6 G3 (e5.trans e6) h6⟩
      refine AsKit.q_asg (K := K) (d := .tuple [optS (toldT w1), optS (toldT w3)]) (d_tup (ds_cons (tt 1 w1 rfl _ _ _ _ _ (e2.trans e3)) (ds_cons (tt 3 w3 rfl _ _ _ _ _ (e2.trans e3)) ds_nil)) (by show 2 ≤ 100000; decide)) fun v6 H4 e4 hv6 => ?_
      have e14 := e13.trans e4
      have x14 := (e2.trans e3).trans e4
      have a4 : ∀ (x5 x6 x7 : Option V) (G : Hp), Ex H4 G → At K [some (.str y), some (.str t), some (.str z), some v3, some v4, x5, x6, x7] G 4 (.list ((placesL t).map PyData.str)) := fun _ _ _ G e => ⟨_, rfl, dp_ex (e4.trans e) hv4⟩
      have a6 : ∀ (x5 x7 : Option V) (G : Hp), Ex H4 G → At K [some (.str y), some (.str t), some (.str z), some v3, some v4, x5, some v6, x7] G 6 (.tuple [optS (toldT w1), optS (toldT w3)]) := fun _ _ G e => ⟨_, rfl, dp_ex e hv6⟩
      have txk : TxK (.tuple [optS (toldT w1), optS (toldT w3)]) := fun ds e x hx => by
        cases e
        have go : ∀ u, u ∈ [w0, w1, w2, w3] → Tx (optS (toldT u)) := fun u hu s es => by
          cases q1 : toldT u with
          | none => rw [q1] at es; cases es
          | some s1 =>
            rw [q1] at es
            cases es
            have := toldT_len q1
            have := wl u hu
            omega
        rcases List.mem_cons.mp hx with rfl | hx
        · exact go w1 (by simp)
        · rw [List.mem_singleton.mp hx]
          exact go w3 (by simp)
      refine Evl.q_when (b := (!decide (w0 ∈ placesL t)) || !(kindD y (.tuple [optS (toldT w1), optS (toldT w3)]))) (Evl.et_or (t_ofD (K := K) (d_inSs (neg := true) (ixw 0 w0 rfl _ _ _ _ _ x14) (d_var (a4 _ _ _ _ (Ex.refl H4))))) fun _ => Evl.et_not (t_ofB (K := K) (d_call (ds_cons (d_var (base0 _ _ _ _ _ _).1) (ds_cons (d_var (a6 _ _ _ (Ex.refl H4))) ds_nil)) ⟨_, _, rfl, txk⟩))) (fun hb2 H5 e5 => ?_) fun hb2 H5 e5 => ?_
      · refine no H5 (e14.trans e5) ?_
        rw [etd]
        cases hl : lookP t w0 with
        | none => rfl
        | some p =>
          rw [decide_eq_true (lookP_mem hl), Bool.not_true, Bool.false_or] at hb2
          have hk : kindD y (.tuple [optS (toldT w1), optS (toldT w3)]) = false := (Bool.not_eq_true' _).mp hb2
          rw [kindD_opt] at hk
          cases h1 : toldT w1 with
          | none => rfl
          | some l =>
            cases h3 : toldT w3 with
            | none => rfl
            | some r =>
              rw [h1, h3] at hk
              have hk : kindS y (l, r) = false := hk
              show (if (kindS y (l, r) && _) = true then _ else none) = none
              rw [hk, Bool.false_and, if_neg (by decide)]
      · have hb2' := (Bool.or_eq_false_iff).mp hb2
        have hin : w0 ∈ placesL t := by
          have := hb2'.1
          simpa using this
        have hk : kindD y (.tuple [optS (toldT w1), optS (toldT w3)]) = true := (Bool.not_eq_false' _).mp hb2'.2
        rw [kindD_opt] at hk
        cases hl : lookP t w0 with
        | none => exact absurd hin (lookP_none hl)
        | some p =>
        obtain ⟨hp1, hp2, hp3⟩ := lookP_some hl
        cases h1 : toldT w1 with
        | none => rw [h1] at hk; cases hk
        | some l =>
        cases h3 : toldT w3 with
        | none => rw [h1, h3] at hk; cases hk
        | some r =>
        rw [h1, h3] at hk
        have hk : kindS y (l, r) = true := hk
        rw [hl, h1, h3] at etd
        have etd : toldD y t [w0, w1, w2, w3] = if (kindS y (l, r) && (hitB t p (l, r) && decide ((bhS t p (l, r)).length ≤ 40))) = true then some (p, (l, r)) else none := etd
        rw [hk, Bool.true_and] at etd
        obtain ⟨k1, k2, k3, k4, k5⟩ := kindS_in hk
        have k1 : l.length ≤ 3 := k1
        have k2 : r.length ≤ 1 := k2
        rw [h1, h3] at hv6
        have hv6 : Dp K H4 v6 (.tuple [.str l, .str r]) := hv6
        have a6' : ∀ (x5 x7 : Option V) (G : Hp), Ex H4 G → At K [some (.str y), some (.str t), some (.str z), some v3, some v4, x5, some v6, x7] G 6 (.tuple [.str l, .str r]) := fun _ _ G e => ⟨_, rfl, dp_ex e hv6⟩
        have hidx : (placesL t)[p]? = some w0 := by
          unfold placesL
          rw [List.getElem?_map, List.getElem?_range (by omega), Option.map_some, hp2]
        have hno : ∀ m, m < p → (placesL t)[m]? ≠ some w0 := fun m hm e => by
          unfold placesL at e
          rw [List.getElem?_map, List.getElem?_range (by omega), Option.map_some] at e
          exact hp3 m hm (Option.some.inj e)
        have x15 := x14.trans e5
        refine AsKit.q_asg (K := K) (d := dD p (l, r)) (d_catT (ds := [.int (p : Int)]) (es := [.str l, .str r]) (d_tup (ds_cons (d_indexS (j := p) (d_var (a4 _ _ _ _ e5)) (ixw 0 w0 rfl _ _ _ _ _ x15) hidx hno) ds_nil) (by show 1 ≤ 100000; decide)) (d_var (a6' _ _ _ e5)) (by simp) (by simp) (by show 1 + 2 ≤ 1000; decide)) fun v7 H6 e6 hv7 => ?_
        have e16 := (e14.trans e5).trans e6
        have a7 : ∀ (G : Hp), Ex H6 G → At K [some (.str y), some (.str t), some (.str z), some v3, some v4, none, some v6, some v7] G 7 (dD p (l, r)) := fun G e => ⟨_, rfl, dp_ex e hv7⟩
        have sl : PyData.strOk l = true := strOk_in hso k3
        have sr : PyData.strOk r = true := strOk_in hso k4
        have kt : Kt (.tuple [kD (l, r)]) (.str t) := ⟨[(l, r)], t, rfl, rfl, by omega, by show 1 ≤ 60; decide, fun m hm => by rw [List.mem_singleton.mp hm]; exact ⟨by show l.length ≤ 40; omega, by show r.length ≤ 40; omega, sl, sr⟩⟩
        have sh : SeqAt.shaped (dD p (l, r)) = true := by
          unfold SeqAt.shaped
          simp [dD, PyData.canLay0, PyData.canLayAll0, PyData.depth, PyData.depthAll, sl, sr]
        have hdd : deedD (.tuple [kD (l, r)]) t (dD p (l, r)) = hitB t p (l, r) := by
          show (isIntD (.int (p : Int)) && dinD (.tuple ([(l, r)].map kD)) t (dD p (l, r))) = _
          rw [show isIntD (.int (p : Int)) = true from (by decide +kernel : ((match kitB "int" "int" with | some b => b | none => false) && !(match kitB "int" "bool" with | some b => b | none => false)) = true), Bool.true_and]
          unfold dinD
          rw [pairs_map]
          cases hh : hitB t p (l, r) with
          | true => exact List.any_eq_true.mpr ⟨_, hitB_le (fun _ => trivial) hh hp1, SeqAt.eqv_refl _ (SeqAt.canLay_of_shaped sh)⟩
          | false =>
            refine List.any_eq_false.mpr fun e he hq => ?_
            obtain ⟨p', hp', e1⟩ : ∃ p', hitB t p' (l, r) = true ∧ e = dD p' (l, r) := by
              unfold deedsL hitsTo at he
              obtain ⟨p', _, he⟩ := List.mem_flatMap.mp he
              unfold hits at he
              obtain ⟨m, hm, rfl⟩ := List.mem_map.mp he
              have hm2 := List.mem_filter.mp hm
              have em : m = (l, r) := by
                have z := hm2.1
                unfold sortO at z
                rw [List.mergeSort_singleton] at z
                exact List.mem_singleton.mp z
              subst em
              exact ⟨p', hm2.2, rfl⟩
            subst e1
            have hq : PyData.eqv (.tuple [.int (p' : Int), .str l, .str r]) (.tuple [.int (p : Int), .str l, .str r]) = true := hq
            rw [eqv_tup, eqv_cons, eqv_ints, Bool.and_eq_true, beq_iff_eq] at hq
            have : p' = p := by have := hq.1; omega
            subst this
            rw [hh] at hp'
            cases hp'
        have a1 : ∀ (G : Hp), At K [some (.str y), some (.str t), some (.str z), some v3, some v4, none, some v6, some v7] G 1 (.str t) := fun G => (base0 _ _ _ _ _ G).2.1
        have tst : EvT (tOr (tNot (tB (tCall (spIsDeedOn K) [] C8.E0 (tCons (tTup (tCons (tVar 6) tNil)) (tCons (tVar 1) (tCons (tVar 7) tNil)))))) (tTest (tOp (rI0 fun i j => V.bl (decide (j < i))) (tCB rLenTx (tCons (tCall (spTextBehind K) [] C8.E0 (tCons (tVar 1) (tCons (tVar 7) tNil))) tNil)) (tC (.int 40)))))
            [some (.str y), some (.str t), some (.str z), some v3, some v4, none, some v6, some v7] H6 (!(hitB t p (l, r)) || decide ((40 : Int) < ((bhS t p (l, r)).length : Int))) := by
          refine Evl.et_or (Evl.et_not (t_ofB (K := K) (d_eqTo (d_call (pre := fun ds => ∃ k t d, ds = [k, t, d] ∧ Kt k t ∧ SeqAt.shaped d = true) (g := three ido3) (ds_cons (d_tup (ds_cons (d_var (a6' _ _ _ (e5.trans e6))) ds_nil) (by show 1 ≤ 100000; decide)) (ds_cons (d_var (a1 H6)) (ds_cons (d_var (a7 H6 (Ex.refl H6))) ds_nil))) ⟨_, _, _, rfl, kt, sh⟩) (by show PyData.bool (deedD (.tuple [kD (l, r)]) t (dD p (l, r))) = _; rw [hdd])))) fun _ => ?_
          have bl : (bhS t p (l, r)).length ≤ 100000 := by
            have l1 := cut_len t none (some (p : Int))
            have l2 := cut_len t (some ((p + (l, r).1.length : Nat) : Int)) none
            unfold bhS
            rw [add_len, add_len]
            show (cutS t none (some (p : Int))).length + r.length + _ ≤ _
            omega
          exact t_ofD (K := K) (d_cmpI (g := fun i j => decide (j < i)) (d_lenS (x := bhS t p (l, r)) (d_call (ds_cons (d_var (a1 H6)) (ds_cons (d_var (a7 H6 (Ex.refl H6))) ds_nil)) ⟨t, p, (l, r), rfl, by omega, by show l.length ≤ 40; omega, by show r.length ≤ 40; omega⟩) bl) d_int)
        refine Evl.q_when tst (fun hb3 H7 e7 => ?_) fun hb3 H7 e7 => ?_
        · refine no H7 (e16.trans e7) ?_
          rw [etd]
          cases hh : hitB t p (l, r) with
          | false => rfl
          | true =>
            rw [hh, Bool.not_true, Bool.false_or] at hb3
            have := of_decide_eq_true hb3
            rw [Bool.true_and, if_neg (by rw [decide_eq_false (by omega)]; decide)]
        · obtain ⟨z1, z2⟩ := (Bool.or_eq_false_iff).mp hb3
          have hh : hitB t p (l, r) = true := (Bool.not_eq_false' _).mp z1
          have hl40 := of_decide_eq_false z2
          refine AsKit.s_ret (K := K) (d_var (a7 H7 e7)) fun u H8 e8 hu => q u H8 ((e16.trans e7).trans e8) ?_
          rw [etd, hh, decide_eq_true (by omega), Bool.true_and, if_pos rfl]
          exact hu
  · have hnone : toldD y t ws = none := by
      match ws, h4 with
      | [], _ => rfl
      | [_], _ => rfl
      | [_, _], _ => rfl
      | [_, _, _], _ => rfl
      | _ :: _ :: _ :: _ :: _ :: _, _ => rfl
    have hd4 : (!decide (((ws.map PyData.str).length : Int) = 4)) = true := by
      rw [List.length_map]
      have : ¬ ((ws.length : Int) = 4) := by omega
      simp [this]
    refine Evl.q_when (b := !decide (((ws.map PyData.str).length : Int) = 4) || false) (Evl.et_or (t_ofD (K := K) (d_neI (d_lenL (d_var (a3 _ _ _ _ _ (Ex.refl H1)))) d_int)) fun h => by rw [hd4] at h; cases h) (fun hb1 H2 e2 => no H2 (e1.trans e2) hnone) fun hb1 => by rw [hd4] at hb1; cases hb1
end
end K27

set_option maxHeartbeats 4000000
set_option autoImplicit false
/-! a story read: all of it. -/
namespace K27
open PySem PySem.Spec PyProof.Rows L2 AsSort AsKit AsToo AsObj AsStar
open Evl (Ex Ev EvT EvA)
theorem lt_one (a b : Nat) : (([a] : List Nat) < [b]) ↔ a < b := by
  constructor
  · intro h
    cases h with
    | rel h => exact h
    | cons h => cases h
  · exact fun h => List.Lex.rel h
theorem let_sm {z : Str} (h : isLetS z = true) : ∀ c ∈ z.cps.toList, 97 ≤ c ∧ c ≤ 122 := by
  unfold isLetS at h
  simp only [Bool.and_eq_true, decide_eq_true_eq] at h
  obtain ⟨_, h2, _⟩ := h
  have hl : (sgns z).length = z.length := by
    unfold sgns
    rw [List.length_map]
    exact Array.length_toList
  rw [List.map_id] at h2
  have hall : ∀ d ∈ sgns z, smF d = true := List.length_filter_eq_length_iff.mp (by omega)
  intro c hc
  have := hall (.str ⟨#[c]⟩) (List.mem_map.mpr ⟨c, hc, rfl⟩)
  unfold smF leS at this
  simp only [Bool.and_eq_true, Bool.not_eq_true', decide_eq_false_iff_not] at this
  have ea : ("a" : Str).cps.toList = [97] := by decide +kernel
  have ez : ("z" : Str).cps.toList = [122] := by decide +kernel
  have ec : ((⟨#[c]⟩ : Str)).cps.toList = [c] := rfl
  rw [ea, ez, lt_one, lt_one] at this
  omega
theorem let_ok {z : Str} (h : isLetS z = true) : PyData.strOk z = true := by
  unfold PyData.strOk
  rw [← Array.all_toList]
  exact List.all_eq_true.mpr fun c hc => decide_eq_true (by have := let_sm h c hc; omega)
theorem allIn_app2 {y a b : Str} (h1 : allIn y a = true) (h2 : allIn y b = true) : allIn y (a ++ b) = true := by
  unfold allIn at *
  have e : (a ++ b).cps.toList = a.cps.toList ++ b.cps.toList := Array.toList_append
  rw [e, List.all_append, h1, h2]
  rfl
theorem allIn_sub2 {y a b : Str} (h : allIn y a = true) (hs : ∀ c ∈ b.cps.toList, c ∈ a.cps.toList) : allIn y b = true := by
  unfold allIn at *
  rw [List.all_eq_true] at *
  exact fun c hc => h c (hs c hc)
theorem bh_in2 {y z : Str} {p : Nat} {k : Str × Str} (h1 : allIn y z = true) (h2 : allIn y k.2 = true) : allIn y (bhS z p k) = true := by
  unfold bhS
  refine allIn_app2 (allIn_app2 (allIn_sub2 h1 fun c hc => ?_) h2) (allIn_sub2 h1 fun c hc => ?_)
  · rw [cut_to] at hc
    exact List.mem_of_mem_take hc
  · rw [cut_from] at hc
    exact List.mem_of_mem_drop hc
/-- the lines that tell deeds, from the n-th line on -/
def goP (y : Str) : Dk → List Str → Nat → Nat ⊕ Dk
  | d, [], _ => .inr d
  | d, l :: ls, n => match toldD y d.now (Txt.split l " ") with
    | none => .inl n
    | some (p, k) => goP y (d.add [(p, k)] (bhS d.now p k)) ls (n + 1)
def deskP (z : Str) : Nat ⊕ Dk := match begunL (Txt.split z "\n").dropLast with
  | .inl n => .inl n
  | .inr (y, t) => (match goP y ⟨y, t, t, []⟩ ((Txt.split z "\n").dropLast.drop 2) 2 with
    | .inl n => .inl n
    | .inr d => if (Txt.split z "\n").getLastD "" = "" then .inr d else .inl (Txt.split z "\n").dropLast.length)
/-- what stays true of a desk that is read -/
structure DkOk (d : Dk) (n : Nat) : Prop where
  ly : isLetS d.y = true
  nl : d.now.length ≤ 40
  ni : allIn d.y d.now = true
  sl : d.steps.length ≤ n
theorem toldD_ok {y t : Str} {ws : List Str} {p : Nat} {k : Str × Str} (h : toldD y t ws = some (p, k)) : kindS y k = true ∧ hitB t p k = true ∧ (bhS t p k).length ≤ 40 ∧ p ≤ t.length := by
  unfold toldD at h
  split at h
  · rename_i w0 w1 w2 w3
    split at h
    · split at h
      · rename_i p' l r h1 h2 h3
        split at h
        · rename_i hc
          cases h
          simp only [Bool.and_eq_true, decide_eq_true_eq] at hc
          exact ⟨hc.1, hc.2.1, hc.2.2, (lookP_some h1).1⟩
        · cases h
      · cases h
    · cases h
  · cases h
theorem begun_ok {ls : List Str} {y t : Str} (h : begunL ls = .inr (y, t)) : isLetS y = true ∧ withinS y t 40 = true ∧ 2 ≤ ls.length := by
  cases ls with
  | nil => cases h
  | cons l0 ls =>
    rw [begun_cons] at h
    split at h
    · rename_i hl
      cases ls with
      | nil => cases h
      | cons l1 ls =>
        dsimp only at h
        split at h
        · cases h
        · split at h
          · cases h
            exact ⟨hl, ‹_›, by simp⟩
          · cases h
    · cases h
theorem DkOk.next {d : Dk} {n p : Nat} {k : Str × Str} {ws : List Str} (o : DkOk d n) (h : toldD d.y d.now ws = some (p, k)) : DkOk (d.add [(p, k)] (bhS d.now p k)) (n + 1) := by
  obtain ⟨h1, h2, h3, h4⟩ := toldD_ok h
  have hk := kindS_in h1
  have e : d.add [(p, k)] (bhS d.now p k) = { d with now := bhS d.now p k, steps := d.steps ++ [([(p, k)], d.now)] } := by unfold Dk.add; rw [if_neg (by simp)]
  rw [e]
  exact ⟨o.ly, h3, bh_in2 o.ni hk.2.2.2.1, by show (d.steps ++ _).length ≤ _; rw [List.length_append]; have := o.sl; show d.steps.length + 1 ≤ _; omega⟩
theorem dk_add_y (d : Dk) (r : List (Nat × (Str × Str))) (b : Str) : (d.add r b).y = d.y := by
  unfold Dk.add
  split <;> rfl
end K27

set_option maxHeartbeats 4000000
set_option autoImplicit false
/-! desk_of. -/
namespace K27
open PySem PySem.Spec PyProof.Rows L2 AsSort AsKit AsToo AsObj AsStar
open Evl (Ex Ev EvT EvA)
section
variable {P : Program} {w : World} {K : PySem.W.Frag} {mg : Str → Option Value} {base : Heap} {C CL CT CK CD CM CR CN CB CI CX : Addr}
abbrev sDeskOf : Stmt := top 54
abbrev nDeskOf : List Str := ["text", "lines", "rest", "desk", "at", "deed"]
theorem sc_desk_of : FnScope nDeskOf ["text"] (defScope sDeskOf) := ⟨rfl, rfl, rfl, by decide +kernel, rfl, by decide +kernel, by decide +kernel⟩
def spDeskOf (K : PySem.W.Frag) (C CI CX : Addr) : Sp := fun vs H Q E => ∃ v : V, vs = [v] ∧ ((∃ p kvs, v = .ref p ∧ H p = some (.dK kvs) ∧ ∀ H', Ex H H' → E (.ref CX) none H') ∨ ∃ dd : PyData, Dp K H v dd ∧ ((isD "str" dd = false ∧ ∀ H', Ex H H' → E (.ref CX) none H') ∨
  ∃ z, dd = .str z ∧ z.length ≤ 900 ∧ (match deskP z with
    | .inl n => BadAt CI n H E
    | .inr d => ∀ a ps H', Ex H H' → H a = none → H ps = none → DkAt K C H' a ps d → Q (.ref a) H')))
theorem dk_copy_ok {d : Dk} {n p : Nat} {k : Str × Str} {ws : List Str} (o : DkOk d n) (h : toldD d.y d.now ws = some (p, k)) : Okay (.str d.y) (.tuple [kD k]) (.str d.now) ∧ SeqAt.shaped (dD p k) = true ∧ dD p k ∈ deedsL [k] d.now ∧ (bhS d.now p k).length ≤ 40 := by
  obtain ⟨h1, h2, h3, h4⟩ := toldD_ok h
  have hk := kindS_in h1
  have hso := let_ok o.ly
  have hl : d.y.length ≤ 4 := by
    have := o.ly
    unfold isLetS at this
    simp only [Bool.and_eq_true, decide_eq_true_eq] at this
    omega
  refine ⟨⟨d.y, d.now, [k], rfl, rfl, rfl, hso, by omega, o.ly, o.nl, o.ni, by show 1 ≤ 12; decide, by simp, fun m hm => by rw [List.mem_singleton.mp hm]; exact hk⟩, ?_, hitB_le (fun _ => trivial) h2 h4, h3⟩
  unfold SeqAt.shaped
  simp [dD, PyData.canLay0, PyData.canLayAll0, PyData.depth, PyData.depthAll, strOk_in hso hk.2.2.1, strOk_in hso hk.2.2.2.1]
theorem x_desk_of (c : DkC K C) (D : Df K mg "desk_of" sDeskOf) (hb : Bl mg) (cX : Ec K mg "NotText" CX) (cI : AsToA.Et P w K mg base "InvalidDesk" CI) (C1 : Klx P w K mg base 6 "begun_desk" ["lines"] (spBegun K C CI)) (C2 : Cl P w K mg base 7 "told_deed" (spToldDeed K) [])
    (M1 : Ml P w K mg base 1 C "text" nText1 (spDText K C)) (M2 : Mlx P w K mg base 8 C "copy" ["self", "kinds", "deed"] (spCopy K C CL CK CT CD CM)) : Klx P w K mg base 9 "desk_of" ["text"] (spDeskOf K C CI CX) := by
  refine klx_of D sc_desk_of (fun vs H Q E ⟨v, h, _⟩ => by rw [h]; rfl) (fun _ _ _ _ _ _ us hl => match us, hl with | [_], _ => rfl) fun f cdv A outer s H vs Q E hr h => ?_
  obtain ⟨v, rfl, o⟩ := h
  obtain ⟨f1, fd1, F1, m1, k1, b1⟩ := C1
  refine ⟨_, pss_cons (ps_if (pt_not (pt_val (pe_isi (x := "str") (T := "str") hb (pv 0)))) (pss_one (ps_raise0 cX rfl (takes_of rfl rfl rfl rfl) (by rfl))) pss_nil)
    (pss_cons (ps_asg (pe_split (pv 0) pe_str) (pg_star (n := 2) rfl (pgs_starred (pg_name (i := 1) sc_desk_of.nd rfl (.inl rfl)) (pgs_cons (pg_name (i := 2) sc_desk_of.nd rfl (.inl rfl)) pgs_nil)) (by decide)))
    (pss_cons (ps_set (i := 3) sc_desk_of.nd rfl (.inl rfl) (pe_call F1 (hr.mono (by decide)) (by rfl) m1 k1 b1 .nil (passes_call (takes_of rfl rfl rfl rfl) fun _ _ _ _ h => h) (pa_cons (pv 1) pa_nil)))
    (pss_cons (ps_for (passes_of rfl) rfl (pi_range2 (by rfl) (hb _ (by decide +kernel)) (pa_cons pe_int (pa_cons (pe_lenQ hb (pv 1)) pa_nil))) (pg_name (i := 4) sc_desk_of.nd rfl (.inl rfl))
      (pss_cons (ps_set (i := 5) sc_desk_of.nd rfl (.inl rfl) (C8.pe_c C2 hr (by decide) (by rfl) (pa_cons (pe_fld (pv 3) rfl) (pa_cons (pe_ml0 M1 hr (by decide) (pv 3)) (pa_cons (pe_ix (r := rIxL K) ix_list (pv 1) (pv 4) (fun _ _ => rfl)) pa_nil)))))
      (pss_cons (ps_if (pt_cmp (pc_isN (pv 5))) (pss_one (AsToA.ps_raiseA cI (hr.mono (by decide)) rfl (takes_of rfl rfl rfl rfl) (by rfl) (pv 4))) pss_nil)
      (pss_one (ps_expr (pe_mx M2 hr (by decide) (passes_call (takes_of rfl rfl rfl rfl) fun _ _ _ _ h => h) (pv 3) (pa_cons (pe_tup (pa_cons (pe_slice sl_tup (pv 5) (po_some pe_int) po_none) pa_nil)) (pa_cons (pv 5) pa_nil))))))))
    (pss_cons (ps_if (pt_cmpR op_ne (pv 2) pe_str (nomark _)) (pss_one (AsToA.ps_raiseA cI (hr.mono (by decide)) rfl (takes_of rfl rfl rfl rfl) (by rfl) (pe_lenQ hb (pv 1)))) pss_nil)
    (pss_one (ps_ret (pv 3))))))), ?_⟩
  rcases o with ⟨p, kvs, rfl, hp, e⟩ | ⟨dd, hv, o⟩
  · have t : EvT (tB (tCB (rIsi K) (tCons (tVar 0) (tCons (tC (.ty "str")) tNil)))) (start nDeskOf [.ref p]) H false := fun H1 x Q1 q1 => ⟨.ref p, rfl, .ref p, .ty "str", .type "dict", .type "str", false, rfl, .ty _, .base (.dK (x _ _ hp)), kit_ty (by decide +kernel), false, rfl, q1 H1 (Ex.refl _)⟩
    exact Evl.q_when (b := !false) (Evl.et_not t) (fun hb1 H1 e1 => e H1 e1) fun hb1 => nomatch hb1
  have a0 : At K (start nDeskOf [v]) H 0 dd := ⟨_, rfl, hv⟩
  rcases o with ⟨no, e⟩ | ⟨z, rfl, hz, o⟩
  · exact Evl.q_when (b := !(isD "str" dd)) (Evl.et_not (t_ofB (K := K) (d_isD (d_var a0)))) (fun hb1 H1 e1 => e H1 e1) fun hb1 => by rw [no] at hb1; cases hb1
  · refine Evl.q_when (b := !(isD "str" (.str z))) (Evl.et_not (t_ofB (K := K) (d_isD (d_var a0)))) (fun hb1 => by rw [isD_str1] at hb1; cases hb1) fun hb1 H1 e1 => ?_
    have bn : (("\n" : Str).length == 0) = false := by decide +kernel
    refine d_split (K := K) (d_var (a0.mono e1)) d_str bn (by omega) H1 (Ex.refl H1) _ fun v1 H2 e2 hv1 => ?_
    have spos := PyProof.Rows.split_pos z "\n"
    have sle := PyProof.Rows.split_le z "\n"
    have wlen : ∀ u ∈ Txt.split z "\n", u.length ≤ 900 := fun u hu => by
      have := PyProof.Rows.part_short hu
      omega
    obtain ⟨rows, erows⟩ : ∃ rows, rows = Txt.split z "\n" := ⟨_, rfl⟩
    unfold deskP at o
    rw [← erows] at hv1 spos sle wlen o
    cases hv1 with
    | lst hs hx =>
    rename_i pl xs
    have ex := strs_of hx
    subst ex
    refine ⟨pl, _, rfl, hs, by rw [List.length_map]; omega, fun p1 np1 => ?_⟩
    obtain ⟨ls, r, erw⟩ : ∃ ls r, rows = ls ++ [r] := by
      have hne : rows ≠ [] := fun e => by rw [e] at spos; exact absurd spos (by decide)
      exact ⟨rows.dropLast, rows.getLast hne, (List.dropLast_concat_getLast hne).symm⟩
    rw [erw] at o spos sle wlen hs
    rw [erw]
    have elen : ((ls ++ [r]).map V.str).length + 1 - 2 = (ls.map V.str).length := by simp
    have etk : ((ls ++ [r]).map V.str).take (((ls ++ [r]).map V.str).length + 1 - 2) = ls.map V.str := by rw [elen, List.map_append]; exact List.take_left
    have edr : ((ls ++ [r]).map V.str).drop (((ls ++ [r]).map V.str).length + 1 - 2) = [V.str r] := by rw [elen, List.map_append]; exact List.drop_left
    rw [etk, edr]
    have eD : (ls ++ [r]).dropLast = ls := by simp
    have eR : (ls ++ [r]).getLastD "" = r := by simp
    rw [eD, eR] at o
    refine ⟨_, _, rfl, _, _, rfl, rfl, ?_⟩
    cases hv
    have x3 : Ex H2 (upd H2 p1 (.lst (ls.map V.str))) := Ex.new np1
    have hp1 : (upd H2 p1 (.lst (ls.map V.str))) p1 = some (.lst (ls.map V.str)) := upd_same
    obtain ⟨H3, eH3⟩ : ∃ H3, H3 = upd H2 p1 (.lst (ls.map V.str)) := ⟨_, rfl⟩
    rw [← eH3] at x3 hp1 ⊢
    have e13 : Ex H H3 := (e1.trans e2).trans x3
    have lsl : ls.length ≤ 901 := by rw [List.length_append] at sle; simp only [List.length_cons, List.length_nil] at sle; omega
    have lw : ∀ u ∈ ls, u.length ≤ 900 := fun u hu => wlen u (List.mem_append_left _ hu)
    have lists : ∀ G : Hp, G p1 = some (.lst (ls.map V.str)) → Dp K G (.ref p1) (.list (ls.map PyData.str)) := fun G h => .lst (Evl.sq_of h) (dp_strs3 _)
    have bad : ∀ (n : Int) (m : Nat) (G : Hp), n = (m : Int) → m ≤ 1000 → Ex H G → BadAt CI m H E → AsToA.InT K CI (fun d H' => E (.ref CI) (some d) H') (.int n) G := fun n m G en hl2 e b => by
      subst en
      refine AsToA.inT_of ?_ fun d nd => b G d e nd
      have e0 : ((m : Int)).natAbs = m := rfl
      rw [e0]
      by_cases h0 : m = 0
      · rw [h0]; decide
      · have : m.log2 < 10 := (Nat.log2_lt h0).mpr (by omega)
        omega
    refine ⟨.ref p1, rfl, .ref p1, ls, rfl, lists H3 hp1, by omega, fun u hu => by have := lw u hu; omega, ?_⟩
    cases hbg : begunL ls with
    | inl n =>
      rw [hbg] at o
      exact fun H' d e nd => o H' d (e13.trans e) nd
    | inr yt =>
      obtain ⟨y, t⟩ := yt
      rw [hbg] at o
      obtain ⟨by1, by2, by3⟩ := begun_ok hbg
      refine fun a ps H4 e4 na nps hdk0 => ?_
      have hp4 : H4 p1 = some (.lst (ls.map V.str)) := e4 _ _ hp1
      have pa : p1 ≠ a := fun e => by rw [← e, hp1] at na; cases na
      have pp : p1 ≠ ps := fun e => by rw [← e, hp1] at nps; cases nps
      have bt : withinS y t 40 = true := by2
      unfold withinS at bt
      simp only [Bool.and_eq_true, decide_eq_true_eq] at bt
      have d0ok : DkOk ⟨y, t, t, []⟩ 0 := ⟨by1, by show t.length ≤ 40; omega, bt.2, Nat.le_refl _⟩
      have lenE : ∀ (x3 x4 x5 : Option V) (G : Hp), G p1 = some (.lst (ls.map V.str)) → EvD K (tCB (rLenQ K) (tCons (tVar 1) tNil)) [some (.str z), some (.ref p1), some (.str r), x3, x4, x5] G (.int (ls.length : Int)) := fun x3 x4 x5 G h => d_eqTo (d_lenL (d_var ⟨_, rfl, lists G h⟩)) (by rw [List.length_map])
      refine Evl.q_forR2 (lo := 2) (n := (ls.length : Int)) (ds_ev2 (K := K) (ds_cons d_int (ds_cons (lenE _ _ _ H4 hp4) ds_nil))) (by omega)
        (fun i σ' H' => ∃ (d : Dk) (x4 x5 : Option V), σ' = [some (.str z), some (.ref p1), some (.str r), some (.ref a), x4, x5] ∧ Bd a ps H4 H' ∧ DkAt K C H' a ps d ∧ DkOk d i ∧ d.y = y ∧ goP y ⟨y, t, t, []⟩ (ls.drop 2) 2 = goP y d (ls.drop (2 + i)) (2 + i))
        (fun H5 e5 => ⟨⟨y, t, t, []⟩, _, _, rfl, bd_ex e5, hdk0.ex e5, d0ok, rfl, rfl⟩) (fun i σ' H' hi p => ?_) fun σ' H' p => ?_
      · obtain ⟨d, x4, x5, rfl, b4, hdk, dok, dy, hgo⟩ := p
        have hi2 : 2 + i < ls.length := by omega
        have hp5 : H' p1 = some (.lst (ls.map V.str)) := b4 _ _ pa pp hp4
        obtain ⟨l, hl⟩ : ∃ l, ls[2 + i]? = some l := ⟨_, List.getElem?_eq_getElem hi2⟩
        have hll := lw l (List.mem_of_getElem? hl)
        have hdrop : ls.drop (2 + i) = l :: ls.drop (2 + (i + 1)) := by
          rw [List.drop_eq_getElem_cons hi2]
          have : ls[2 + i] = l := by rw [List.getElem?_eq_getElem hi2] at hl; exact Option.some.inj hl
          rw [this]
          rfl
        obtain ⟨σ5, eσ⟩ : ∃ σ5 : L2.St, σ5 = [some (.str z), some (.ref p1), some (.str r), some (.ref a), some (.int (2 + (i : Int))), x5] := ⟨_, rfl⟩
        have s3 : σ5[3]? = some (some (.ref a)) := by rw [eσ]; rfl
        have told : EvD K (tCall (spToldDeed K) [] C8.E0 (tCons (tFld K (tVar 3) "letters") (tCons (tMeth C "text" (spDText K C) [] C8.E0 (tVar 3) tNil) (tCons (tOp (rIxL K) (tVar 1) (tVar 4)) tNil)))) σ5 H' (optK (toldD d.y d.now (Txt.split l " "))) := fun G1 x Q1 q1 => by
          have mt : EvD K (tMeth C "text" (spDText K C) [] C8.E0 (tVar 3) tNil) σ5 H' (.str d.now) := fun G2 x2 Q2 q2 => by
            have hd2 := hdk.ex x2
            obtain ⟨dx, vs, h1, h2, h3⟩ := id hd2
            exact ⟨.ref a, s3, a, dx, _, rfl, h1, rfl, a, ps, d, rfl, hd2, fun G3 e3 => q2 _ G3 e3 (.str _)⟩
          have ixl : EvD K (tOp (rIxL K) (tVar 1) (tVar 4)) σ5 H' (.str l) := d_ixL (i := 2 + (i : Int)) (d_var ⟨_, by rw [eσ]; rfl, lists H' hp5⟩) (d_var ⟨_, by rw [eσ]; rfl, .int _⟩) (by
            rw [show (2 : Int) + (i : Int) = ((2 + i : Nat) : Int) by omega]
            exact atI_nat (by rw [List.getElem?_map, hl]; rfl))
          refine (ds_cons (d_fl c hdk s3) (ds_cons mt (ds_cons ixl ds_nil))) G1 x _ fun vs G2 e2 hvs => ?_
          cases hvs with
          | cons ha hvs =>
          cases hvs with
          | cons hb3 hvs =>
          cases hvs with
          | cons hc hvs =>
          cases hvs
          cases ha
          cases hb3
          cases hc
          exact ⟨d.y, d.now, l, rfl, let_ok dok.ly, dok.nl, by omega, fun v5 G3 e3 h5 => q1 v5 G3 (e2.trans e3) h5⟩
        show tSeq (tAsg _ (gName 5)) _ _ ([some (.str z), some (.ref p1), some (.str r), some (.ref a), some (.int (2 + (i : Int))), x5] : L2.St) H'
        rw [← eσ]
        refine AsKit.q_asg (K := K) told fun v5 H5 e5 hv5 => ?_
        rw [eσ]
        have b5 := b4.trans (bd_ex e5)
        cases htd : toldD d.y d.now (Txt.split l " ") with
        | none =>
          rw [htd] at hv5
          have hv5 : Dp K H5 v5 .none := hv5
          cases hv5
          refine Evl.q_when (b := true) (fun G1 x Q1 q1 => ⟨.non, rfl, true, by simp, q1 G1 (Ex.refl _)⟩) (fun _ H6 e6 => ?_) fun z => nomatch z
          have hbad : goP y ⟨y, t, t, []⟩ (ls.drop 2) 2 = .inl (2 + i) := by
            rw [hgo, hdrop]
            show (match toldD y d.now (Txt.split l " ") with
              | none => Sum.inl (2 + i)
              | some (p, k) => goP y (d.add [(p, k)] (bhS d.now p k)) _ (2 + i + 1)) = _
            rw [← dy, htd]
          dsimp only at o
          rw [hbad] at o
          have nH : ∀ x u, H x = some u → x ≠ a ∧ x ≠ ps := fun x u hx => ⟨(fun e => by rw [e] at hx; rw [e13 _ _ hx] at na; cases na), (fun e => by rw [e] at hx; rw [e13 _ _ hx] at nps; cases nps)⟩
          exact ⟨_, rfl, bad _ (2 + i) H6 (by omega) (by omega) (fun x u hx => e6 _ _ (b5 x u (nH x u hx).1 (nH x u hx).2 (e4 _ _ (e13 _ _ hx)))) o⟩
        | some pk =>
          obtain ⟨p, k⟩ := pk
          rw [htd] at hv5
          have hv5 : Dp K H5 v5 (dD p k) := hv5
          have nn : v5 ≠ .non := fun e => by rw [e] at hv5; cases hv5
          refine Evl.q_when (b := false) (fun G1 x Q1 q1 => ⟨v5, rfl, false, by simp [nn], q1 G1 (Ex.refl _)⟩) (fun z => nomatch z) fun _ H6 e6 => ?_
          obtain ⟨c1, c2, c3, c4⟩ := dk_copy_ok dok htd
          have hdk6 := (hdk.ex e5).ex e6
          have hv6 := dp_ex e6 hv5
          have sl5 := dok.sl
          obtain ⟨dx, vs, h1, h2, h3⟩ := id hdk6
          refine ⟨.ref a, rfl, a, dx, _, rfl, h1, rfl, ?_⟩
          refine (ds_cons (K := K) (d_tup (ds_cons (d_sl13 (a := .int (p : Int)) (b := .str k.1) (c := .str k.2) (d_var (i := 5) ⟨v5, rfl, hv6⟩) (p_some d_int) p_none) ds_nil) (by show 1 ≤ 100000; decide)) (ds_cons (d_var (i := 5) ⟨v5, rfl, hv6⟩) ds_nil)) H6 (Ex.refl H6) _ fun us H7 e7 hus => ?_
          cases hus with
          | cons hu1 hus =>
          cases hus with
          | cons hu2 hus =>
          cases hus
          refine ⟨a, ps, d, _, _, .tuple [kD k], dD p k, rfl, hdk6.ex e7, by omega, hu1, hu2, .inr ⟨c1, c2, .inr ⟨[k], d.now, p, k, rfl, rfl, rfl, c3, List.mem_singleton.mpr rfl, .inr ⟨c4, fun H8 e8 b pp2 kk2 hu3 hdd hb3 H9 b9 hdk9 => ?_⟩⟩⟩⟩
          cases hu3
          refine ⟨d.add [(p, k)] (bhS d.now p k), _, _, rfl, (((b5.trans (bd_ex e6)).trans (bd_ex e7)).trans (bd_ex e8)).trans b9, ?_, dok.next htd, by rw [dk_add_y]; exact dy, ?_⟩
          · obtain ⟨q1, q2⟩ := dD_inj hdd
            subst q1 q2
            exact hdk9
          · rw [hgo, hdrop]
            show (match toldD y d.now (Txt.split l " ") with
              | none => Sum.inl (2 + i)
              | some (p, k) => goP y (d.add [(p, k)] (bhS d.now p k)) _ (2 + i + 1)) = _
            rw [← dy, htd]
            rfl
      · obtain ⟨d, x4, x5, rfl, b4, hdk, dok, dy, hgo⟩ := p
        have hp5 : H' p1 = some (.lst (ls.map V.str)) := b4 _ _ pa pp hp4
        have hend : goP y ⟨y, t, t, []⟩ (ls.drop 2) 2 = .inr d := by
          rw [hgo, List.drop_eq_nil_of_le (by omega)]
          rfl
        dsimp only at o
        rw [hend] at o
        dsimp only at o
        have nH : ∀ x u, H x = some u → x ≠ a ∧ x ≠ ps := fun x u hx => ⟨(fun e => by rw [e] at hx; rw [e13 _ _ hx] at na; cases na), (fun e => by rw [e] at hx; rw [e13 _ _ hx] at nps; cases nps)⟩
        have exH : Ex H H' := fun x u hx => b4 x u (nH x u hx).1 (nH x u hx).2 (e4 _ _ (e13 _ _ hx))
        refine Evl.q_when (b := !decide (r = "")) (t_ofD (K := K) (d_neS (d_var (i := 2) ⟨_, rfl, .str r⟩) d_str)) (fun hb5 H6 e6 => ?_) fun hb5 H6 e6 => ?_
        · have hr2 : ¬ r = "" := by simpa using hb5
          rw [if_neg hr2] at o
          refine lenE _ _ _ H6 (e6 _ _ hp5) H6 (Ex.refl H6) _ fun u H7 e7 hu => ?_
          cases hu
          exact bad _ ls.length H7 rfl (by omega) ((exH.trans e6).trans e7) o
        · have hr2 : r = "" := by simpa using hb5
          rw [if_pos hr2] at o
          refine ⟨.ref a, rfl, o a ps H6 (exH.trans e6) ?_ ?_ (hdk.ex e6)⟩
          · cases q : H a with
            | none => rfl
            | some u => exact absurd rfl (nH a u q).1
          · cases q : H ps with
            | none => rfl
            | some u => exact absurd rfl (nH ps u q).2
end
end K27

set_option maxHeartbeats 4000000
set_option autoImplicit false
/-! zip of two texts. -/
namespace AsZipS
open PySem PySem.Spec PyProof.Rows L2
/-- the signs of both, turn by turn, in new pairs -/
def ItzS (a b : Str) : It := ⟨fun i _ => i < a.cps.size ∧ i < b.cps.size, fun i H v H' => ∃ (T : Addr) (c d : Nat), v = .ref T ∧ H T = none ∧ H' = upd H T (.tup [.str ⟨#[c]⟩, .str ⟨#[d]⟩]) ∧ a.cps[i]? = some c ∧ b.cps[i]? = some d, fun i _ => (a.cps.size ≤ i ∨ b.cps.size ≤ i)⟩
abbrev TnS (a b : Str) (t u : Tok) (z TI TO i1 i2 : Addr) (i : Nat) (h : Heap) : Prop := i ≤ min a.cps.size b.cps.size ∧ IsZip h z TI TO .none ∧ IsTupOf2 h TI (.ref i1) (.ref i2) ∧ (∃ x y, IsTupOf2 h TO x y) ∧ h.IsStrIter i1 (strIterType a) a t i ∧ h.IsStrIter i2 (strIterType b) b u i
theorem turn_zipS {P : Program} {w : World} {K : PySem.W.Frag} {elts : List Expr} {kk : Nat} {tpos : Pos} {a b : Str} {t u : Tok} {z TI TO i1 i2 : Addr} (S : ZipSep2 z TI TO i1 i2 [i1] [i2]) :
    Turn P w K (.Tuple elts kk tpos) (ItzS a b) [z, TI, TO, i1, i2] z (TnS a b t u z TI TO i1 i2) where
  mem := List.mem_cons_self ..
  obj := fun i h st c hc => by
    obtain ⟨_, hz, hTI, ⟨x, y, hTO⟩, ⟨o1, e1, _, d1⟩, ⟨o2, e2, _, d2⟩⟩ := st
    simp only [List.mem_cons, List.not_mem_nil, or_false] at hc
    rcases hc with rfl | rfl | rfl | rfl | rfl
    · exact ⟨_, hz, (fun _ q => nomatch q)⟩
    · exact ⟨_, hTI, (fun _ q => nomatch q)⟩
    · exact ⟨_, hTO, (fun _ q => nomatch q)⟩
    · exact ⟨o1, e1, (fun v q => by rw [d1] at q; cases q)⟩
    · exact ⟨o2, e2, (fun v q => by rw [d2] at q; cases q)⟩
  keep := fun i h h' st k => by
    obtain ⟨hi, hz, hTI, ⟨x, y, hTO⟩, ⟨o1, e1, q1⟩, ⟨o2, e2, q2⟩⟩ := st
    have m : ∀ c, c ∈ [z, TI, TO, i1, i2] → ∀ o, h.get? c = some o → h'.get? c = some o := fun c hc o e => k c hc o e
    exact ⟨hi, m z (by simp) _ hz, m TI (by simp) _ hTI, ⟨x, y, m TO (by simp) _ hTO⟩, ⟨o1, m i1 (by simp) _ e1, q1⟩, ⟨o2, m i2 (by simp) _ e2, q2⟩⟩
  item := by
    intro X hP hw hK hc i pins s σ H E I hf st hg
    subst hP hw hK
    obtain ⟨hi, hz, hTI, ⟨x0, y0, hTO⟩, st1, st2⟩ := st
    have hh : X.A.in1.handled = none := I.ok.hd hc
    refine wpAny_pyNext_zipD2_item S (Draws.text (A := X.A.in1) hh i1 a t) (Draws.text (A := X.A.in1) hh i2 b u) hz hTI hTO st1 st2 hg.1 hg.2 fun x1 x2 h' tk y1 y2 z' TO' st1' st2' hT hsz hk => ?_
    obtain ⟨c, uc, hc1, rfl⟩ := y1
    obtain ⟨d, ud, hd1, rfl⟩ := y2
    have lt : ∀ {c o}, s.heap.get? c = some o → c < s.heap.objs.size := fun e => Heap.lt_size e
    have hzl := lt hz
    refine ⟨_, rfl, wpAny_letOwnedTupleGo_zip (s := { s with heap := h', toks := tk }) z' fun h'' z'' sb => ?_⟩
    have sb2 : ∀ c o, c ≠ z → h'.get? c = some o → h''.get? c = some o := fun c o n e => sb.extBut c o n e
    have hT2 := sb2 _ _ (Nat.ne_of_gt hzl) hT
    have new : ObjOk X.prog X.w (upd H s.heap.objs.size (.tup [.str ⟨#[c]⟩, .str ⟨#[d]⟩])) h'' s.heap.objs.size (.tup [.str ⟨#[c]⟩, .str ⟨#[d]⟩]) := ⟨by show 2 ≤ sizeLine; decide, _, .cons ⟨_, rfl⟩ (.cons ⟨_, rfl⟩ .nil), ⟨_, hT2, rfl, _, rfl⟩⟩
    have I1 : Inv X pins σ (upd H s.heap.objs.size (.tup [.str ⟨#[c]⟩, .str ⟨#[d]⟩])) { s with heap := h'', toks := tk } :=
      I.turnedNew (t' := tk) (ch := [z, TI, TO, i1, i2]) (fun c o hb q => sb2 c o (fun e => hb (by simp [e])) (hk c o (fun e => hb (by simp [e])) (fun e => hb (by simp [e])) (fun e => hb (by simp [e])) (fun e => hb (by simp [e])) q)) hf (Nat.le_refl _) new
    have nz1 : i1 ≠ z := fun e => S.zf1 (by rw [← e]; exact S.mem1)
    have nz2 : i2 ≠ z := fun e => S.zf2 (by rw [← e]; exact S.mem2)
    obtain ⟨p1, e1, q1⟩ := st1'
    obtain ⟨p2, e2, q2⟩ := st2'
    refine ⟨.ref s.heap.objs.size, _, I1, rfl, ⟨_, c, d, rfl, I.hok.fresh (Nat.le_refl _), rfl, hc1, hd1⟩, ⟨by have := hg.1; have := hg.2; omega, z'', sb2 _ _ S.TIz (hk _ _ S.TIz S.TITO S.TIi1 S.TIi2 hTI), ⟨_, _, sb2 _ _ S.TOz TO'⟩, ⟨p1, sb2 _ _ nz1 e1, q1⟩, ⟨p2, sb2 _ _ nz2 e2, q2⟩⟩, fun c' hcm => ?_⟩
    have hlt : c' < s.heap.objs.size := by
      simp only [List.mem_cons, List.not_mem_nil, or_false] at hcm
      obtain ⟨_, w1, _⟩ := st1
      obtain ⟨_, w2, _⟩ := st2
      rcases hcm with rfl | rfl | rfl | rfl | rfl
      · exact hzl
      · exact lt hTI
      · exact lt hTO
      · exact lt w1
      · exact lt w2
    rw [upd_ne (Nat.ne_of_lt hlt)]
    exact (hf c' hcm).1
  done := by
    intro X hP hw hK hc i pins s σ H E I hf st hg
    subst hP hw hK
    obtain ⟨hi, hz, hTI, ⟨x0, y0, hTO⟩, st1, st2⟩ := st
    have hh : X.A.in1.handled = none := I.ok.hd hc
    have hg : a.cps.size ≤ i ∨ b.cps.size ≤ i := hg
    refine wpAny_pyNext_zipD2_end S (Draws.text (A := X.A.in1) hh i1 a t) (Draws.text (A := X.A.in1) hh i2 b u) hz hTI hTO st1 st2 (by omega) (by omega) (by omega) fun h' tk hk => ⟨rfl, I.turnedL (t' := tk) (ch := [z, TI, TO, i1, i2]) (fun c o hb q => ?_) hf⟩
    exact hk c o (fun e => hb (by simp [e])) (fun e => hb (by simp [e])) (fun e => hb (by simp [e])) (fun e => hb (by simp [e])) q
  self := fun A i s Q E st h => wpAny_pyIter_zip st.2.1 h
def iZipS (ta : TA) : TI := fun σ H R => ta σ H fun vs H1 => ∃ a b : Str, vs = [.str a, .str b] ∧ R (ItzS a b) H1
theorem pi_zipS {X : Cx} {e e2 : Expr} {ta : TA} {p pos tpos : Pos} {elts : List Expr} {kk : Nat} (hg : Gl X "zip") (hm : X.mg "zip" = none) (ha : PA X [e, e2] ta)
    (hs : starEach [e, e2] X.env = (false, eval e X.env) :: starEach [e2] X.env := by rfl) (hpl : (backTo pos (starEach [e2] X.env)).any (·.1) = false := by rfl) : PI X (.Tuple elts kk tpos) (.Call (.Name "zip" p) [e, e2] [] pos) (iZipS ta) := by
  refine ⟨fun pins s σ H R I h => ?_⟩
  refine Call_ (ld_blt I hg hm PyProof.Rows.boot_zip (PyProof.Rows.callWith_type1 (thn (ha.run pos pins s σ H _ I h) fun us s1 ⟨vs, H1, I1, r1, a, b, ev, q⟩ => ?_) hs hpl))
  subst ev
  obtain ⟨u1, u2, rfl, r, r'⟩ := vals2 r1
  obtain ⟨t, rfl⟩ := r
  obtain ⟨u, rfl⟩ := r'
  have ns : ∀ k, k ≤ 4 → FpOk X pins H1 (s1.heap.objs.size + k) := fun k _ => I1.fpOk (Nat.le_add_right _ _) (I1.hok.fresh (Nat.le_add_right _ _))
  refine zip_begins2 (begins_text a t) (begins_text b u) trivial trivial fun h' hz hTI hTO g1 g2 hsz hk => wpAny_pyIter_zip hz ?_
  have I2 : Inv X pins σ H1 { s1 with heap := h' } := I1.kept (t' := s1.toks) hk
  have ne : ∀ {i j : Nat}, i ≠ j → s1.heap.objs.size + i ≠ s1.heap.objs.size + j := fun h e => h (Nat.add_left_cancel e)
  refine ⟨s1.heap.objs.size + 4, [s1.heap.objs.size + 4, s1.heap.objs.size + 2, s1.heap.objs.size + 3, s1.heap.objs.size, s1.heap.objs.size + 1], _, ItzS a b, H1, rfl, I2, turn_zipS (t := t) (u := u) (i1 := s1.heap.objs.size) (i2 := s1.heap.objs.size + 1) ⟨ne (by decide), ne (by decide), ne (by decide), ne (i := 2) (j := 0) (by decide), by simp, by simp, by simp, ne (by decide), by simp, by simp, by simp, by simp, by simp⟩, ⟨Nat.zero_le _, hz, hTI, ⟨_, _, hTO⟩, ⟨_, g1, rfl, rfl⟩, ⟨_, g2, rfl, rfl⟩⟩, fun c hc => ?_, q⟩
  simp only [List.mem_cons, List.not_mem_nil, or_false] at hc
  rcases hc with rfl | rfl | rfl | rfl | rfl
  · exact ns 4 (by decide)
  · exact ns 2 (by decide)
  · exact ns 3 (by decide)
  · exact ns 0 (by decide)
  · exact ns 1 (by decide)
open AsSort AsKit
open Evl (Ex Ev EvT EvA)
def pairsZ (a b : Str) : List PyData := (a.cps.toList.zip b.cps.toList).map fun p => .tuple [.str ⟨#[p.1]⟩, .str ⟨#[p.2]⟩]
theorem cd_ex {K : PySem.W.Frag} {H H1 H2 : Hp} {ds : List PyData} {f : PyData → Bool} {g : PyData → PyData} {D : Addr} {i : Nat} (p : Cd K H ds f g D i H1) (e : Ex H1 H2) : Cd K H ds f g D i H2 := by
  obtain ⟨p1, p2, acc, p3, p4⟩ := p
  exact ⟨p1, p2.trans e, acc, e _ _ p3, dpAll_ex e p4⟩
theorem d_lcZ {K : PySem.W.Frag} {σ : L2.St} {H : Hp} {ta : TA} {t : TT} {te : TE} {gt : TG} {vs : List Nat} {a b : Str} (f : PyData → Bool) (g : PyData → PyData) (h : EvDs K ta σ H [.str a, .str b]) (hz : a.length ≤ 50000) (him : ∀ d ∈ pairsZ a b, f d = true → imm (g d) = true) (ht : ∀ d ∈ pairsZ a b, Turn K gt t te vs σ H d (f d) (g d)) :
    EvD K (tLc (iZipS ta) gt t te vs) σ H (.list (((pairsZ a b).filter f).map g)) := fun H1 x Q q => h H1 x _ fun us H2 e2 hu => by
  cases hu with
  | cons h1 hu =>
  cases hu with
  | cons h2 hu =>
  cases hu
  cases h1
  cases h2
  have la : a.cps.toList.length = a.length := Array.length_toList
  have lb : b.cps.toList.length = b.length := Array.length_toList
  have lz : (pairsZ a b).length = min a.length b.length := by unfold pairsZ; rw [List.length_map, List.length_zip, la, lb]
  refine ⟨a, b, rfl, fun D hD => ⟨fun i m H' => m = min a.length b.length - i ∧ i ≤ min a.length b.length ∧ Cd K H2 (pairsZ a b) f g D i H', ⟨_, rfl, Nat.zero_le _, cd_start hD⟩, ?_⟩⟩
  rintro i m H' ⟨rfl, hi, p⟩
  by_cases hlt : i < min a.length b.length
  · refine .inr ⟨⟨(by show i < a.length; omega), (by show i < b.length; omega)⟩, fun G => Cd K H2 (pairsZ a b) f g D (i + 1) G, fun G hG => ⟨_, (by omega : min a.length b.length - (i + 1) < min a.length b.length - i), rfl, (by omega), hG⟩, fun y G hy => ?_⟩
    obtain ⟨T, c, d, rfl, nT, rfl, hc, hd⟩ := hy
    have xT : Ex H' (upd H' T (.tup [.str ⟨#[c]⟩, .str ⟨#[d]⟩])) := Ex.new nT
    have hdi : (pairsZ a b)[i]? = some (.tuple [.str ⟨#[c]⟩, .str ⟨#[d]⟩]) := by
      unfold pairsZ
      rw [List.getElem?_map, List.getElem?_zip_eq_some (z := (c, d)).mpr ⟨by rw [Array.getElem?_toList]; exact hc, by rw [Array.getElem?_toList]; exact hd⟩]
      rfl
    have hx : Dp K (upd H' T (.tup [.str ⟨#[c]⟩, .str ⟨#[d]⟩])) (.ref T) (.tuple [.str ⟨#[c]⟩, .str ⟨#[d]⟩]) := .tup (Evl.st_of upd_same) (.cons (.str _) (.cons (.str _) .nil))
    exact ht _ (List.mem_of_getElem? hdi) _ _ (x.trans (e2.trans (p.2.1.trans xT))) hx _ fun σ2 w h1 h2 => ⟨w, cd_turn him (cd_ex p xT) hdi (by omega) h1 h2⟩
  · have e : i = (pairsZ a b).length := by omega
    rw [e] at p
    have z := cd_end p
    refine .inl ⟨?_, q _ H' (e2.trans z.1) z.2⟩
    show a.length ≤ i ∨ b.length ≤ i
    omega
end AsZipS

set_option maxHeartbeats 4000000
set_option autoImplicit false
/-! the law's reading of a story, as maths. -/
namespace K27
open PySem PySem.Spec PyProof.Rows L2 AsSort AsKit AsToo AsObj AsZipS
open Evl (Ex Ev EvT EvA)
theorem js_two (a b : Str) : js [a, b] Str.empty = Str.empty ++ a ++ b := rfl
theorem joinL_mem {S : List Nat} {c : Nat} : ∀ {ps : List (List Nat)} {p : List Nat}, p ∈ ps → c ∈ p → c ∈ TL.joinL S ps
  | [], _, h, _ => nomatch h
  | [q], p, h, hc => by
    rw [List.mem_singleton.mp h] at hc
    exact hc
  | q :: r :: rest, p, h, hc => by
    show c ∈ q ++ (S ++ TL.joinL S (r :: rest))
    rcases List.mem_cons.mp h with h | h
    · rw [h] at hc
      exact List.mem_append_left _ hc
    · exact List.mem_append_right _ (List.mem_append_right _ (joinL_mem h hc))
/-- what stands in a word stands in the text -/
theorem split_mem {z y u : Str} {c : Nat} (hu : u ∈ Txt.split z y) (hc : c ∈ u.cps.toList) : c ∈ z.cps.toList := by
  have e := StrLaws.join_split z y
  have e2 : TL.tl (Str.join y (Txt.split z y)) = TL.tl z := by rw [e]
  rw [TL.tl_join] at e2
  show c ∈ TL.tl z
  rw [← e2]
  exact joinL_mem (List.mem_map.mpr ⟨u, hu, rfl⟩) hc
theorem strOk_part {z y u : Str} (h : PyData.strOk z = true) (hu : u ∈ Txt.split z y) : PyData.strOk u = true := by
  unfold PyData.strOk at *
  rw [← Array.all_toList] at *
  rw [List.all_eq_true] at *
  exact fun c hc => h c (split_mem hu hc)
theorem sp_tl : TL.tl (" " : Str) = [32] := by decide +kernel
theorem sp_len : (" " : Str).length = 1 := by decide +kernel
theorem split_two {l a b : Str} (h : Txt.split l " " = [a, b]) : l = a ++ " " ++ b := by
  have e := StrLaws.join_split l " "
  rw [h] at e
  exact e.symm
theorem two_split {a b : Str} (ha : (32 : Nat) ∉ TL.tl a) (hb : (32 : Nat) ∉ TL.tl b) : Txt.split (a ++ " " ++ b) " " = [a, b] := by
  have e : a ++ " " ++ b = Txt.join " " [a, b] := by
    unfold Txt.join
    rw [StrLaws.glued_eq_join]
    rfl
  rw [e]
  exact TL.split_join (y := " ") (s := 32) (S := []) sp_tl (by decide +kernel) (by simp) fun p hp => by
    simp only [List.mem_cons, List.not_mem_nil, or_false] at hp
    rcases hp with rfl | rfl
    · exact ha
    · exact hb
theorem tl_js (k : Str) : TL.tl (js [k, " "] Str.empty) = TL.tl k ++ [32] := by
  rw [js_two, TL.tl_append, TL.tl_append, sp_tl]
  rfl
theorem len_tl (z : Str) : (TL.tl z).length = z.length := Array.length_toList
theorem js_len2 (k : Str) : (js [k, " "] Str.empty).length = k.length + 1 := by
  rw [← len_tl, tl_js, List.length_append, len_tl]
  rfl
theorem starts_iff (l x : Str) : Txt.startswith l x = true ↔ (TL.tl l).take x.length = TL.tl x := by
  unfold Txt.startswith
  rw [StrLaws.subAt_eq, List.drop_zero]
  have e2 := len_tl x
  have e3 := len_tl l
  rw [Bool.and_eq_true, decide_eq_true_eq, beq_iff_eq]
  constructor
  · exact fun h => h.2
  · intro h
    refine ⟨?_, h⟩
    have := congrArg List.length h
    rw [List.length_take] at this
    omega
theorem wb_tl (k b : Str) : wb k (k ++ " " ++ b) = b := by
  have e : TL.tl (k ++ " " ++ b) = (TL.tl k ++ [32]) ++ TL.tl b := by rw [TL.tl_append, TL.tl_append, sp_tl]
  have e1 : (TL.tl k ++ [32]).length = k.length + 1 := by rw [List.length_append, len_tl]; rfl
  unfold wb
  rw [if_pos ((starts_iff _ _).mpr (by rw [e, js_len2, tl_js]; exact List.take_left' e1))]
  refine TL.ext_tl ?_
  show (cutS (k ++ " " ++ b) (some ((k.length + 1 : Nat) : Int)) none).cps.toList = _
  rw [cut_from]
  show (TL.tl (k ++ " " ++ b)).drop (k.length + 1) = _
  rw [e]
  exact List.drop_left' e1
theorem wb_of_split {k l w : Str} (h : Txt.split l " " = [k, w]) : wb k l = w := by
  rw [split_two h]
  exact wb_tl k w
theorem split_of_wb {k l : Str} (hn : wb k l ≠ "") (hk : (32 : Nat) ∉ TL.tl k) (hb : (32 : Nat) ∉ TL.tl (wb k l)) : Txt.split l " " = [k, wb k l] := by
  have e : l = k ++ " " ++ wb k l := by
    refine TL.ext_tl ?_
    rw [TL.tl_append, TL.tl_append, sp_tl]
    by_cases hs : Txt.startswith l (js [k, " "] Str.empty) = true
    · have h1 := (starts_iff _ _).mp hs
      rw [js_len2, tl_js] at h1
      have h2 : TL.tl (wb k l) = (TL.tl l).drop (k.length + 1) := by
        unfold wb
        rw [if_pos hs]
        exact cut_from ..
      rw [h2, ← h1, List.take_append_drop]
    · exact absurd (by unfold wb; rw [if_neg hs]) hn
  have := two_split hk hb
  rw [← e] at this
  exact this
/-- the text that the law reads of a word -/
def lrd (y w : Str) : Option Str := if w = "_" then some "" else if (!decide (w = "") && allIn y w) = true then some w else none
theorem lrd_some {y w t : Str} : lrd y w = some t ↔ toldT w = some t ∧ allIn y t = true := by
  unfold lrd toldT
  have z0 : ("_" : Str) ≠ "" := by decide +kernel
  have z1 : allIn y "" = true := rfl
  by_cases h1 : w = "_"
  · rw [if_pos h1, if_neg (by rw [h1]; exact z0), if_pos h1]
    constructor
    · intro h
      cases h
      exact ⟨rfl, z1⟩
    · exact fun h => h.1
  · rw [if_neg h1]
    by_cases h2 : w = ""
    · rw [if_pos h2, if_neg (by simp [h2])]
      constructor
      · exact fun h => nomatch h
      · exact fun h => nomatch h.1
    · rw [if_neg h2, if_neg h1]
      by_cases h3 : allIn y w = true
      · rw [if_pos (by simp [h2, h3])]
        constructor
        · intro h
          cases h
          exact ⟨rfl, h3⟩
        · exact fun h => h.1
      · rw [if_neg (by simp [h3])]
        constructor
        · exact fun h => nomatch h
        · intro h
          obtain ⟨h4, h5⟩ := h
          cases h4
          exact absurd h5 h3
/-- one text not ahead of another -/
def geZ : PyData → Bool
  | .tuple [.str a, .str b] => !decide (a.cps.toList < b.cps.toList)
  | _ => false
def sndL (z : Str) : Bool := (decide ((0 : Int) < z.length) && decide ((z.length : Int) < 5)) && ((pairsZ z (cutS z (some 1) none)).filter geZ).isEmpty
def azL (z : Str) : Bool := ((sgns z).filter fun d => !smF d).isEmpty
theorem empty_all {α : Type} (f : α → Bool) (l : List α) : (l.filter fun x => !f x).isEmpty = l.all f := by
  induction l with
  | nil => rfl
  | cons a l ih =>
    rw [List.filter_cons, List.all_cons]
    cases f a <;> simp [ih]
theorem full_all {α : Type} (f : α → Bool) (l : List α) {n : Int} (h : (l.length : Int) = n) : decide ((((l.filter f).map id).length : Int) = n) = l.all f := by
  rw [List.map_id]
  by_cases a : ∀ x ∈ l, f x = true
  · rw [List.all_eq_true.mpr a, List.filter_eq_self.mpr a]
    exact decide_eq_true h
  · have e : l.all f = false := by
      rw [Bool.eq_false_iff]
      exact fun z => a (List.all_eq_true.mp z)
    rw [e]
    refine decide_eq_false fun z => a (List.length_filter_eq_length_iff.mp (by omega))
theorem snd_let (z : Str) : (sndL z && azL z) = isLetS z := by
  unfold sndL azL isLetS
  have hl : z.cps.toList.length = z.length := Array.length_toList
  have hs : ((sgns z).length : Int) = z.length := by
    unfold sgns
    rw [List.length_map, hl]
  rw [empty_all, full_all smF _ hs]
  have h1 : decide ((0 : Int) < z.length) = decide ((1 : Int) ≤ z.length) := decide_eq_decide.mpr (by omega)
  have h2 : decide ((z.length : Int) < 5) = decide ((z.length : Int) ≤ 4) := decide_eq_decide.mpr (by omega)
  rw [h1, h2, Bool.and_assoc]
  by_cases hr : (decide ((1 : Int) ≤ z.length) && decide ((z.length : Int) ≤ 4)) = true
  · rw [hr, Bool.true_and, Bool.true_and]
    simp only [Bool.and_eq_true, decide_eq_true_eq] at hr
    have hrl : ((rngD 1 ((z.length : Int) - 1).toNat).length : Int) = (z.length : Int) - 1 := by
      unfold rngD
      rw [List.length_map, List.length_range]
      omega
    rw [full_all (riF z) _ hrl, Bool.and_comm]
    congr 1
    rw [Bool.eq_iff_iff, List.isEmpty_iff, List.all_eq_true, List.filter_eq_nil_iff]
    have ec : (cutS z (some 1) none).cps.toList = z.cps.toList.drop 1 := cut_from ..
    have key : ∀ j a b, z.cps.toList[j]? = some a → z.cps.toList[j + 1]? = some b → riF z (.int (1 + (j : Nat))) = !geZ (.tuple [.str ⟨#[a]⟩, .str ⟨#[b]⟩]) := fun j a b ha hb => by
      have x1 : (1 : Int) + (j : Int) - 1 = (j : Int) := by omega
      have x2 : (1 : Int) + (j : Int) = ((j + 1 : Nat) : Int) := by omega
      show (match atI z.cps.toList (1 + (j : Int) - 1), atI z.cps.toList (1 + (j : Int)) with
        | some a, some b => decide ([a] < [b])
        | _, _ => false) = !(!decide (([a] : List Nat) < [b]))
      rw [x1, x2, atI_nat ha, atI_nat hb, Bool.not_not]
    constructor
    · intro h d hd
      unfold rngD at hd
      obtain ⟨j, hj, rfl⟩ := List.mem_map.mp hd
      have hj := List.mem_range.mp hj
      have ha : z.cps.toList[j]? = some z.cps.toList[j] := List.getElem?_eq_getElem (by omega)
      have hb : z.cps.toList[j + 1]? = some z.cps.toList[j + 1] := List.getElem?_eq_getElem (by omega)
      rw [key j _ _ ha hb, Bool.not_eq_true']
      have := h (.tuple [.str ⟨#[z.cps.toList[j]]⟩, .str ⟨#[z.cps.toList[j + 1]]⟩]) (by
        unfold pairsZ
        refine List.mem_map.mpr ⟨(z.cps.toList[j], z.cps.toList[j + 1]), ?_, rfl⟩
        rw [ec]
        refine List.mem_of_getElem? (i := j) ?_
        rw [List.getElem?_zip_eq_some]
        exact ⟨ha, by rw [List.getElem?_drop, Nat.add_comm]; exact hb⟩)
      simpa using this
    · intro h d hd
      unfold pairsZ at hd
      obtain ⟨⟨a, b⟩, hp, rfl⟩ := List.mem_map.mp hd
      obtain ⟨j, hj⟩ := List.mem_iff_getElem?.mp hp
      rw [List.getElem?_zip_eq_some, ec, List.getElem?_drop, Nat.add_comm] at hj
      obtain ⟨ha, hb⟩ := hj
      have hlt := (List.getElem?_eq_some_iff.mp hb).1
      have := h (.int (1 + (j : Nat))) (by
        unfold rngD
        exact List.mem_map.mpr ⟨j, List.mem_range.mpr (by omega), rfl⟩)
      rw [key j _ _ ha hb, Bool.not_eq_true'] at this
      show ¬ geZ _ = true
      rw [this]
      decide
  · rw [Bool.not_eq_true] at hr
    rw [hr, Bool.false_and, Bool.false_and]
/-- the law's reading of a deed's line -/
def stepL (y t : Str) (ws : List Str) : Option (Nat × (Str × Str)) := match ws with
  | [w0, w1, w2, w3] => if (decide (w2 = ">") && decide (w0 ∈ (List.range 41).map intS)) = true then (match PySem.intText? w0, lrd y w1, lrd y w3 with
    | some i, some l, some r => if ((((((!decide (l = r)) && decide (l.length ≤ 3)) && decide (r.length ≤ 1)) && decide (i ≤ t.length)) && hitB t i.toNat (l, r)) && decide ((bhS t i.toNat (l, r)).length ≤ 40)) = true then some (i.toNat, (l, r)) else none
    | _, _, _ => none) else none
  | _ => none
theorem int_intS : ∀ p, p < 41 → PySem.intText? (intS p) = some (p : Int) ∧ (intS p).length ≤ 640 := by
  have h : ∀ p ∈ List.range 41, PySem.intText? (intS p) = some (p : Int) ∧ (intS p).length ≤ 640 := by decide +kernel
  exact fun p hp => h p (List.mem_range.mpr hp)
theorem intS_inj {p q : Nat} (hp : p < 41) (hq : q < 41) (e : intS p = intS q) : p = q := by
  have h1 := (int_intS p hp).1
  have h2 := (int_intS q hq).1
  rw [e, h2] at h1
  have := Option.some.inj h1
  omega
theorem lookP_is {t : Str} (ht : t.length ≤ 40) {p : Nat} (hp : p < 41) : lookP t (intS p) = if p ≤ t.length then some p else none := by
  cases q : lookP t (intS p) with
  | none =>
    rw [if_neg]
    intro h
    exact lookP_none q (List.mem_map.mpr ⟨p, List.mem_range.mpr (by omega), rfl⟩)
  | some x =>
    obtain ⟨h1, h2, _⟩ := lookP_some q
    have := intS_inj (by omega) hp h2
    subst this
    rw [if_pos h1]
theorem lrd_yes {y w t : Str} (h : toldT w = some t) (h2 : allIn y t = true) : lrd y w = some t := lrd_some.mpr ⟨h, h2⟩
theorem lrd_no1 {y w : Str} (h : toldT w = none) : lrd y w = none := by
  cases q : lrd y w with
  | none => rfl
  | some t => have := (lrd_some.mp q).1; rw [h] at this; cases this
theorem lrd_no2 {y w t : Str} (h : toldT w = some t) (h2 : allIn y t = false) : lrd y w = none := by
  cases q : lrd y w with
  | none => rfl
  | some t' =>
    obtain ⟨z1, z2⟩ := lrd_some.mp q
    rw [h] at z1
    cases z1
    rw [h2] at z2
    cases z2
theorem kindS_of {y l r : Str} (h1 : allIn y l = true) (h2 : allIn y r = true) : kindS y (l, r) = (((!decide (l = r)) && decide (l.length ≤ 3)) && decide (r.length ≤ 1)) := by
  unfold kindS withinS
  rw [h1, h2, Bool.and_true, Bool.and_true]
  have e1 : decide ((l.length : Int) ≤ 3) = decide (l.length ≤ 3) := decide_eq_decide.mpr (by omega)
  have e2 : decide ((r.length : Int) ≤ 1) = decide (r.length ≤ 1) := decide_eq_decide.mpr (by omega)
  show ((decide ((l.length : Int) ≤ 3) && decide ((r.length : Int) ≤ 1)) && !decide (l = r)) = _
  rw [e1, e2, Bool.and_comm, Bool.and_assoc]
theorem kindS_no {y l r : Str} (h : allIn y l = false ∨ allIn y r = false) : kindS y (l, r) = false := by
  unfold kindS withinS
  rcases h with h | h
  · show ((((_ && allIn y l) && _) && _) = false)
    rw [h, Bool.and_false, Bool.false_and, Bool.false_and]
  · show (((_ && (_ && allIn y r)) && _) = false)
    rw [h, Bool.and_false, Bool.and_false, Bool.false_and]
theorem step_eq {y t : Str} {ws : List Str} (ht : t.length ≤ 40) : stepL y t ws = toldD y t ws := by
  match ws with
  | [w0, w1, w2, w3] =>
    unfold stepL toldD
    dsimp only
    by_cases h2 : w2 = ">"
    · rw [if_pos h2]
      by_cases hm : w0 ∈ (List.range 41).map intS
      · rw [if_pos (by rw [decide_eq_true h2, decide_eq_true hm]; rfl)]
        obtain ⟨p, hp, rfl⟩ := List.mem_map.mp hm
        have hp := List.mem_range.mp hp
        rw [(int_intS p hp).1, lookP_is ht hp]
        obtain ⟨o, eo⟩ : ∃ o, o = if p ≤ t.length then some p else none := ⟨_, rfl⟩
        rw [← eo]
        cases h1 : toldT w1 with
        | none =>
          rw [lrd_no1 h1]
          cases o <;> rfl
        | some l =>
          cases h3 : toldT w3 with
          | none =>
            rw [lrd_no1 h3]
            cases o <;> cases lrd y w1 <;> rfl
          | some r =>
            cases a1 : allIn y l with
            | false =>
              rw [lrd_no2 h1 a1]
              cases o with
              | none => rfl
              | some x =>
                show none = if (kindS y (l, r) && _) = true then _ else none
                rw [kindS_no (.inl a1), Bool.false_and, if_neg (by decide)]
            | true =>
              rw [lrd_yes h1 a1]
              cases a3 : allIn y r with
              | false =>
                rw [lrd_no2 h3 a3]
                cases o with
                | none => rfl
                | some x =>
                  show none = if (kindS y (l, r) && _) = true then _ else none
                  rw [kindS_no (.inr a3), Bool.false_and, if_neg (by decide)]
              | true =>
                rw [lrd_yes h3 a3]
                show (if ((((((!decide (l = r)) && decide (l.length ≤ 3)) && decide (r.length ≤ 1)) && decide ((p : Int) ≤ t.length)) && hitB t p (l, r)) && decide ((bhS t p (l, r)).length ≤ 40)) = true then some (p, (l, r)) else none) = _
                rw [← kindS_of a1 a3, eo]
                by_cases hl : p ≤ t.length
                · rw [if_pos hl, decide_eq_true (by omega : (p : Int) ≤ t.length), Bool.and_true, Bool.and_assoc]
                · rw [if_neg hl, decide_eq_false (by omega : ¬ (p : Int) ≤ t.length), Bool.and_false, Bool.false_and, Bool.false_and, if_neg (by decide)]
      · rw [if_neg (by rw [decide_eq_false hm, Bool.and_false]; decide)]
        cases q : lookP t w0 with
        | none => rfl
        | some x =>
          obtain ⟨g1, g2, _⟩ := lookP_some q
          exact absurd (List.mem_map.mpr ⟨x, List.mem_range.mpr (by omega), g2⟩) hm
    · rw [if_neg h2, if_neg (by rw [decide_eq_false h2, Bool.false_and]; decide)]
  | [] => rfl
  | [_] => rfl
  | [_, _] => rfl
  | [_, _, _] => rfl
  | _ :: _ :: _ :: _ :: _ :: _ => rfl
end K27

set_option maxHeartbeats 4000000
set_option autoImplicit false
namespace AsKit
open PySem PySem.Spec PyProof.Rows L2 AsSort
open Evl (Ex Ev EvT EvA)
section
variable {K : PySem.W.Frag} {σ : L2.St} {H : Hp} {te ta tb : TE} {d : PyData}
theorem d_neB {x y : Bool} (h : EvD K ta σ H (.bool x)) (h2 : EvD K tb σ H (.bool y)) : EvD K (tOp rNe ta tb) σ H (.bool (!decide (x = y))) :=
  d_eqTo (d_ofB (Evl.ev_op (ev_bl h) (ev_bl h2) (Evl.rv_ne rfl))) (by cases x <;> cases y <;> rfl)
theorem d_eqB {x y : Bool} (h : EvD K ta σ H (.bool x)) (h2 : EvD K tb σ H (.bool y)) : EvD K (tOp rEq ta tb) σ H (.bool (decide (x = y))) :=
  d_eqTo (d_ofB (Evl.ev_op (ev_bl h) (ev_bl h2) (Evl.rv_eq rfl))) (by cases x <;> cases y <;> rfl)
theorem t_isNo (h : EvD K ta σ H d) (n : d ≠ .none) : EvT (tTest (tOp (fun x y H Q => y = .non ∧ Q (.bl (decide (x = .non))) H) ta (tC .non))) σ H false := fun H1 a Q q =>
  h H1 a _ fun v H2 x hd => by
    have e : decide (v = V.non) = false := by
      apply decide_eq_false
      intro e
      subst e
      cases hd
      exact n rfl
    exact ⟨rfl, _, rfl, by rw [e]; exact q H2 x⟩
theorem EvT_not_true {t : TT} (h : EvT t σ H true) : EvT (tNot t) σ H false := Evl.et_not h
/-- isinstance(e, (tuple, list)) -/
theorem d_isTL {b : Bool} (h : EvD K te σ H d) (hb : b = (isD "tuple" d || isD "list" d)) : EvD K (tCB (rIsiT K) (tCons te (tCons (tTup (tCons (tC (.ty "tuple")) (tCons (tC (.ty "list")) tNil))) tNil))) σ H (.bool b) := by
  refine d_isiT (cs := [.ty "tuple", .ty "list"]) (us := [.type "tuple", .type "list"]) h (fun H1 _ => Evl.ea_cons Evl.ev_c (Evl.ea_cons Evl.ev_c Evl.ea_nil)) (by decide) (.cons (.ty _) (.cons (.ty _) .nil)) ?_
  have k1 : kitB (tyName d) "tuple" = some (isD "tuple" d) := isD_kit (by decide +kernel) d
  have k2 : kitB (tyName d) "list" = some (isD "list" d) := isD_kit (by decide +kernel) d
  refine kitAny_cons (kit_ty k1) (fun h1 => kitAny_cons (r := b) (kit_ty k2) (fun h2 => ?_) fun h2 => by rw [hb, h2, Bool.or_true]) fun h1 => by rw [hb, h1, Bool.true_or]
  rw [hb, h1, h2]
  rfl
end
section
variable {X : Cx} {e : Expr} {te : TE} {p : Pos}
theorem pe_isTL {p2 p3 p4 pos : Pos} {k : Nat} (hb : Bl X.mg) (he : PE X e te) (hg : Gl X "isinstance" := by rfl) (hg2 : Gl X "tuple" := by rfl) (hg3 : Gl X "list" := by rfl)
    (hs : starEach [e, .Tuple [.Name "tuple" p2, .Name "list" p3] k p4] X.env = (false, eval e X.env) :: starEach [.Tuple [.Name "tuple" p2, .Name "list" p3] k p4] X.env := by rfl) :
    PE X (.Call (.Name "isinstance" p) [e, .Tuple [.Name "tuple" p2, .Name "list" p3] k p4] [] pos) (tCB (rIsiT X.K) (tCons te (tCons (tTup (tCons (tC (.ty "tuple")) (tCons (tC (.ty "list")) tNil))) tNil))) :=
  pe_callB call_isiT hg (hb _ (by decide +kernel)) (by decide +kernel) (pa_cons he (pa_cons (pe_tup (pa_cons (pe_bltn hg2 (hb _ (by decide +kernel)) (by decide +kernel) rfl) (pa_cons (pe_bltn hg3 (hb _ (by decide +kernel)) (by decide +kernel) rfl) pa_nil))) pa_nil) hs) (he := hs)
end
end AsKit
namespace K27
open PySem PySem.Spec PyProof.Rows L2 AsSort AsKit
open Evl (Ex Ev EvT EvA)
abbrev sAlike : Stmt := top 58
section
variable {P : Program} {w : World} {K : PySem.W.Frag} {mg : Str → Option Value} {base : Heap}
abbrev nAlike : List Str := ["found", "due", "k", "key"]
theorem sc_alike : FnScope nAlike ["found", "due"] (defScope sAlike) := ⟨rfl, rfl, rfl, by decide +kernel, rfl, by decide +kernel, by decide +kernel⟩
/-- data of ints, texts, tuples of them, of depth n at most -/
def okD : Nat → PyData → Prop
  | _, .int _ => True
  | _, .str _ => True
  | _, .none => True
  | _, .bool _ => True
  | n + 1, .tuple ds => ds.length ≤ 40000 ∧ ∀ d ∈ ds, okD n d
  | n + 1, .list ds => ds.length ≤ 40000 ∧ ∀ d ∈ ds, okD n d
  | _, _ => False
abbrev spAlike (K : PySem.W.Frag) (n : Nat) : Sp := spP K (fun ds => ∃ d, ds = [d, d] ∧ okD n d) (fun _ => .bool true)
abbrev iI (K : PySem.W.Frag) (T : String) (i : Nat) : TE := tCB (rIsi K) (tCons (tVar i) (tCons (tC (.ty T)) tNil))
/-- behind the branch of tuples -/
def tTail (K : PySem.W.Frag) : TS := tSeq (tIfS (tB (iI K "dict" 1)) tNever tNext) (tSeq (tIfS (tOr (tTest (tOp (fun x y H Q => y = .non ∧ Q (.bl (decide (x = .non))) H) (tVar 1) (tC .non))) (tB (iI K "str" 1))) (tRet (tAndV (tOp rEq (tVar 0) (tVar 1)) (tOp rEq (iI K "str" 0) (iI K "str" 1)))) tNext)
  (tRet (tAndV (iI K "int" 0) (tAndV (tOp rEq (iI K "bool" 0) (iI K "bool" 1)) (tOp rEq (tVar 0) (tVar 1))))))
theorem isD_of {T y : String} {b : Bool} (h : kitB y T = some b) {d : PyData} (hy : tyName d = y) : isD T d = b := by unfold isD; rw [hy, h]
theorem alike_tail {d : PyData} {Q : VK} {D : Ends} (hD : D.rt = Q) {v v2 : V} {H H0 : Hp} (h0 : Dp K H v d) (h1 : Dp K H v2 d) (ho : okD 0 d) (q : ∀ u H', Ex H H' → Dp K H' u (.bool true) → Q u H') : tTail K D (start nAlike [v, v2]) H := by
  have a0 : At K (start nAlike [v, v2]) H 0 d := ⟨_, rfl, h0⟩
  have a1 : At K (start nAlike [v, v2]) H 1 d := ⟨_, rfl, h1⟩
  have k : ∀ y ∈ names7, (y = "int" → kitB y "dict" = some false ∧ kitB y "str" = some false ∧ kitB y "int" = some true ∧ kitB y "bool" = some false) ∧ (y = "str" → kitB y "dict" = some false ∧ kitB y "str" = some true) := by decide +kernel
  have nodict : isD "dict" d = false := by
    cases d with
    | int i => unfold isD; rw [((k "int" (by decide)).1 rfl).1 |> fun z => (show kitB (tyName (.int i)) "dict" = some false from z)]
    | str z => unfold isD; rw [((k "str" (by decide)).2 rfl).1 |> fun y => (show kitB (tyName (.str z)) "dict" = some false from y)]
    | none => exact isD_of (by decide +kernel) rfl
    | bool b => exact isD_of (y := "bool") (by decide +kernel) rfl
    | _ => exact ho.elim
  unfold tTail
  refine Evl.q_when (b := isD "dict" d) (t_ofB (d_isD (d_var a1))) (fun h => by rw [nodict] at h; cases h) fun _ H1 e1 => ?_
  cases d with
  | str z =>
    have ss : isD "str" (.str z) = true := isD_str1 z
    refine Evl.q_when (b := false || isD "str" (.str z)) (Evl.et_or (t_isNo (K := K) (d_var (a1.mono e1)) (fun e => nomatch e)) fun _ => t_ofB (d_isD (d_var (a1.mono e1)))) (fun _ H2 e2 => ?_) fun h => by rw [ss] at h; cases h
    have b0 := (a0.mono e1).mono e2
    have b1 := (a1.mono e1).mono e2
    refine AsKit.s_ret (K := K) (d_and (d_eqS (d_var b0) (d_var b1)) fun _ => d_eqB (d_isD (d_var b0)) (d_isD (d_var b1))) fun u H3 e3 hu => ?_
    show D.rt u H3
    rw [hD]
    refine q u H3 ((e1.trans e2).trans e3) ?_
    rw [decide_eq_true rfl, decide_eq_true rfl] at hu
    exact hu
  | int i =>
    have ss : isD "str" (.int i) = false := by unfold isD; rw [((k "int" (by decide)).1 rfl).2.1 |> fun z => (show kitB (tyName (.int i)) "str" = some false from z)]
    have si : isD "int" (.int i) = true := by unfold isD; rw [((k "int" (by decide)).1 rfl).2.2.1 |> fun z => (show kitB (tyName (.int i)) "int" = some true from z)]
    refine Evl.q_when (b := false || isD "str" (.int i)) (Evl.et_or (t_isNo (K := K) (d_var (a1.mono e1)) (fun e => nomatch e)) fun _ => t_ofB (d_isD (d_var (a1.mono e1)))) (fun h => by rw [ss] at h; cases h) fun _ H2 e2 => ?_
    have b0 := (a0.mono e1).mono e2
    have b1 := (a1.mono e1).mono e2
    refine AsKit.s_ret (K := K) (d_and (d_isD (d_var b0)) fun _ => d_and (d_eqB (d_isD (d_var b0)) (d_isD (d_var b1))) fun _ => d_eqI (d_var b0) (d_var b1)) fun u H3 e3 hu => ?_
    show D.rt u H3
    rw [hD]
    refine q u H3 ((e1.trans e2).trans e3) ?_
    rw [si, decide_eq_true rfl, decide_eq_true rfl] at hu
    exact hu
  | none =>
    have ss : isD "str" .none = false := isD_of (by decide +kernel) rfl
    have yes : EvT (tTest (tOp (fun x y H Q => y = .non ∧ Q (.bl (decide (x = .non))) H) (tVar 1) (tC .non))) (start nAlike [v, v2]) H1 true := fun H2 a Q q => by
      obtain ⟨v', e', hv'⟩ := a1.mono (e1.trans a)
      cases hv'
      exact ⟨_, e', rfl, true, by simp, q H2 (Ex.refl _)⟩
    refine Evl.q_when (b := true || isD "str" .none) (Evl.et_or yes fun h => by cases h) (fun _ H2 e2 => ?_) fun h => by cases h
    have b0 := (a0.mono e1).mono e2
    have b1 := (a1.mono e1).mono e2
    have eqn : EvD K (tOp rEq (tVar 0) (tVar 1)) (start nAlike [v, v2]) H2 (.bool true) := fun H3 a Q q => by
      obtain ⟨v', e', hv'⟩ := b0.mono a
      obtain ⟨v3, e3, hv3⟩ := b1.mono a
      cases hv'
      cases hv3
      exact ⟨_, e', _, e3, rfl, q _ H3 (Ex.refl _) (by simpa using Dp.bl true)⟩
    refine AsKit.s_ret (K := K) (d_and eqn fun _ => d_eqB (d_isD (d_var b0)) (d_isD (d_var b1))) fun u H3 e3 hu => ?_
    show D.rt u H3
    rw [hD]
    refine q u H3 ((e1.trans e2).trans e3) ?_
    rw [decide_eq_true rfl] at hu
    exact hu
  | bool b =>
    have ss : isD "str" (.bool b) = false := isD_of (y := "bool") (by decide +kernel) rfl
    have si : isD "int" (.bool b) = true := isD_of (y := "bool") (by decide +kernel) rfl
    refine Evl.q_when (b := false || isD "str" (.bool b)) (Evl.et_or (t_isNo (K := K) (d_var (a1.mono e1)) (fun e => nomatch e)) fun _ => t_ofB (d_isD (d_var (a1.mono e1)))) (fun h => by rw [ss] at h; cases h) fun _ H2 e2 => ?_
    have b0 := (a0.mono e1).mono e2
    have b1 := (a1.mono e1).mono e2
    refine AsKit.s_ret (K := K) (d_and (d_isD (d_var b0)) fun _ => d_and (d_eqB (d_isD (d_var b0)) (d_isD (d_var b1))) fun _ => d_eqB (d_var b0) (d_var b1)) fun u H3 e3 hu => ?_
    show D.rt u H3
    rw [hD]
    refine q u H3 ((e1.trans e2).trans e3) ?_
    rw [si, decide_eq_true rfl, decide_eq_true rfl] at hu
    exact hu
  | _ => exact ho.elim
theorem noseq {d : PyData} (ho : okD 0 d) : (isD "tuple" d || isD "list" d) = false := by
  have k : ∀ y ∈ names7, y = "int" ∨ y = "str" → kitB y "tuple" = some false ∧ kitB y "list" = some false := by decide +kernel
  cases d with
  | int i =>
    have z := k "int" (by decide) (.inl rfl)
    unfold isD
    rw [show kitB (tyName (.int i)) "tuple" = some false from z.1, show kitB (tyName (.int i)) "list" = some false from z.2]
    rfl
  | str i =>
    have z := k "str" (by decide) (.inr rfl)
    unfold isD
    rw [show kitB (tyName (.str i)) "tuple" = some false from z.1, show kitB (tyName (.str i)) "list" = some false from z.2]
    rfl
  | none => rw [isD_of (T := "tuple") (b := false) (by decide +kernel) rfl, isD_of (T := "list") (b := false) (by decide +kernel) rfl]; rfl
  | bool b => rw [isD_of (T := "tuple") (y := "bool") (b := false) (by decide +kernel) rfl, isD_of (T := "list") (y := "bool") (b := false) (by decide +kernel) rfl]; rfl
  | _ => exact ho.elim
theorem alike_body0 (hb : Bl mg) (f : Addr) (cdv : Value) (A : Around) (outer : List Env) (s : Shared) (H : Hp) (Q : VK) (E : XK) {v v2 : V} {d : PyData} (h0 : Dp K H v d) (h1 : Dp K H v2 d) (ho : okD 0 d) (q : ∀ u H', Ex H H' → Dp K H' u (.bool true) → Q u H') :
    ∃ t, PSs (cxOf CX0 P w K mg base nAlike "_law_alike" (defScope sAlike) f cdv A outer s H E).nox (defBody sAlike) t ∧ t { nx := fun _ H' => Q .non H', rt := Q } (start nAlike [v, v2]) H := by
    refine ⟨tSeq _ (tTail K), pss_cons (ps_if (pt_val (pe_isTL hb (pv 1))) pss_never pss_nil)
      (pss_cons (ps_if (pt_val (pe_isi (x := "dict") (T := "dict") hb (pv 1))) pss_never pss_nil)
      (pss_cons (ps_if (pw_or (pt_cmpR op_isN (pv 1) pe_non rfl) (pw_or1 (pt_val (pe_isi (x := "str") (T := "str") hb (pv 1))))).pt (pss_one (ps_ret (pe_and (pe_cmpR op_eq (pv 0) (pv 1) (nomark _)) (pe_one (pe_cmpR op_eq (pe_isi (x := "str") (T := "str") hb (pv 0)) (pe_isi (x := "str") (T := "str") hb (pv 1)) (nomark _)))))) pss_nil)
      (pss_one (ps_ret (pe_and (pe_isi (x := "int") (T := "int") hb (pv 0)) (pe_and (pe_cmpR op_eq (pe_isi (x := "bool") (T := "bool") hb (pv 0)) (pe_isi (x := "bool") (T := "bool") hb (pv 1)) (nomark _)) (pe_one (pe_cmpR op_eq (pv 0) (pv 1) (nomark _))))))))), ?_⟩
    have a1 : At K (start nAlike [v, v2]) H 1 d := ⟨_, rfl, h1⟩
    refine Evl.q_when (b := (isD "tuple" d || isD "list" d)) (t_ofB (d_isTL (d_var a1) rfl)) (fun h => by rw [noseq ho] at h; cases h) fun _ H1 e1 => ?_
    exact alike_tail (H0 := H) rfl (dp_ex e1 h0) (dp_ex e1 h1) ho fun u H2 e2 hu => q u H2 (e1.trans e2) hu
theorem c_alike (D : Df K mg "_law_alike" sAlike) (hb : Bl mg) : ∀ n, Cl P w K mg base (n + 1) "_law_alike" (spAlike K n) []
  | 0 => by
    refine cl_of D sc_alike (len_sp fun ds ⟨d, h, _⟩ => by rw [h]; rfl) (fun _ _ _ _ _ _ us hl => match us, hl with | [_, _], _ => rfl) fun f cdv A outer s H vs Q E hr h => ?_
    obtain ⟨ds, hd, ⟨d, rfl, ho⟩, q⟩ := h
    obtain ⟨v, v2, rfl, h0, h1⟩ := dp2 hd
    exact alike_body0 hb f cdv A outer s H Q E h0 h1 ho q
  | n + 1 => by
    have C := c_alike D hb n
    refine cl_of D sc_alike (len_sp fun ds ⟨d, h, _⟩ => by rw [h]; rfl) (fun _ _ _ _ _ _ us hl => match us, hl with | [_, _], _ => rfl) fun f cdv A outer s H vs Q E hr h => ?_
    obtain ⟨ds, hd, ⟨d, rfl, ho⟩, q⟩ := h
    obtain ⟨v, v2, rfl, h0, h1⟩ := dp2 hd
    have hu : (A.deeper (envOfC "_law_alike" (defScope sAlike) s.heap.objs.size f cdv)).units + 64 < cLine := by have := hr.un; omega
    have a0 : At K (start nAlike [v, v2]) H 0 d := ⟨_, rfl, h0⟩
    have a1 : At K (start nAlike [v, v2]) H 1 d := ⟨_, rfl, h1⟩
    cases d with
    | tuple es =>
      refine ⟨_, pss_cons (ps_if (pt_val (pe_isTL hb (pv 1)))
        (pss_cons (ps_if (pw_or (pt_not (pt_val (pe_isTL hb (pv 0)))) (pw_or1 (pt_cmpR op_ne (pe_isi (x := "list") (T := "list") hb (pv 0)) (pe_isi (x := "list") (T := "list") hb (pv 1)) (nomark _)))).pt (pss_one (ps_ret pe_bl)) pss_nil)
        (pss_cons (ps_if (pt_cmpR op_ne (pe_lenQ hb (pv 0)) (pe_lenQ hb (pv 1)) (nomark _)) (pss_one (ps_ret pe_bl)) pss_nil)
        (pss_one (ps_ret (pe_cmpR (op_eqD hu) (pe_lcn 2 sc_alike.nd (pi_range1 (by rfl) (hb _ (by decide +kernel)) (pa_cons (pe_lenQ hb (pv 1)) pa_nil)) (fun _ _ _ _ _ => pts_one (pt_not (pt_val (C8.pe_c C (hr.mono (Nat.le_refl _)) (Nat.le_refl _) (by rfl) (pa_cons (pe_ix (r := rIxT K) ix_tup (pv 0) (pv 2) (fun _ _ => rfl)) (pa_cons (pe_ix (r := rIxT K) ix_tup (pv 1) (pv 2) (fun _ _ => rfl)) pa_nil)))))) (fun _ _ _ _ _ => pv 2) (fun _ _ _ _ _ => pg_name sc_alike.nd rfl (.inl rfl)) (blkOk_by (N := nAlike) (sc := defScope sAlike) (own := [("k", 2)]) (by decide +kernel)) rfl) (pe_lst pa_nil) (nomark _)))))) pss_nil)
        pss_never, ?_⟩
      have z1 : isD "tuple" (.tuple es) = true := isD_tup1 es
      refine Evl.q_when (b := (isD "tuple" (.tuple es) || isD "list" (.tuple es))) (t_ofB (d_isTL (d_var a1) rfl)) (fun _ H1 e1 => ?_) fun h => by rw [z1] at h; cases h
      refine Evl.q_when (b := !(isD "tuple" (.tuple es) || isD "list" (.tuple es)) || !decide (isD "list" (.tuple es) = isD "list" (.tuple es))) (Evl.et_or (Evl.et_not (t_ofB (d_isTL (d_var (a0.mono e1)) rfl))) fun _ => t_ofD (d_neB (d_isD (d_var (a0.mono e1))) (d_isD (d_var (a1.mono e1))))) (fun h => by rw [z1, decide_eq_true rfl] at h; cases h) fun _ H2 e2 => ?_
      have b0 := (a0.mono e1).mono e2
      have b1 := (a1.mono e1).mono e2
      refine Evl.q_when (b := !decide ((es.length : Int) = (es.length : Int))) (t_ofD (d_neI (d_lenT (d_var b0)) (d_lenT (d_var b1)))) (fun h => by rw [decide_eq_true rfl] at h; cases h) fun _ H3 e3 => ?_
      have c0 := b0.mono e3
      have c1 := b1.mono e3
      have hlen : es.length ≤ 40000 := ho.1
      refine AsKit.s_ret (K := K) (d_eqD (d := .list []) (e := .list []) (d_eqTo (d_lcR1 (hi := (es.length : Int)) (fun _ => false) id (ds_cons (d_lenT (d_var c1)) ds_nil) (by omega) (fun _ _ h => by cases h) fun i hi x H4 e4 hx k hk => hk _ rfl (EvT_not_true (t_ofB (K := K) ?_)) fun h => by cases h) ?_) (d_lst ds_nil (Nat.zero_le _)) (by decide +kernel) (by decide +kernel)) fun u H4 e4 hu => q u H4 (((e1.trans e2).trans e3).trans e4) ?_
      · have hi2 : i < es.length := by omega
        have g0 : At K ((wipe (start nAlike [v, v2]) [2]).set 2 (some x)) H4 0 (.tuple es) := ⟨_, rfl, dp_ex (((e1.trans e2).trans e3).trans e4) h0⟩
        have g1 : At K ((wipe (start nAlike [v, v2]) [2]).set 2 (some x)) H4 1 (.tuple es) := ⟨_, rfl, dp_ex (((e1.trans e2).trans e3).trans e4) h1⟩
        have g2 : At K ((wipe (start nAlike [v, v2]) [2]).set 2 (some x)) H4 2 (.int (0 + (i : Int))) := ⟨_, rfl, hx⟩
        have hix : atI es (0 + (i : Int)) = some es[i] := by rw [Int.zero_add]; exact atI_nat (List.getElem?_eq_getElem hi2)
        exact d_call (ds_cons (d_ixT (d_var g0) (d_var g2) hix) (ds_cons (d_ixT (d_var g1) (d_var g2) hix) ds_nil)) ⟨es[i], rfl, ho.2 _ (List.getElem_mem hi2)⟩
      · rw [List.filter_eq_nil_iff.mpr fun _ _ h => by cases h]
        rfl
      · have e : PyData.eqv (.list []) (.list []) = true := by decide +kernel
        rw [e] at hu
        exact hu
    | list es =>
      refine ⟨_, pss_cons (ps_if (pt_val (pe_isTL hb (pv 1)))
        (pss_cons (ps_if (pw_or (pt_not (pt_val (pe_isTL hb (pv 0)))) (pw_or1 (pt_cmpR op_ne (pe_isi (x := "list") (T := "list") hb (pv 0)) (pe_isi (x := "list") (T := "list") hb (pv 1)) (nomark _)))).pt (pss_one (ps_ret pe_bl)) pss_nil)
        (pss_cons (ps_if (pt_cmpR op_ne (pe_lenQ hb (pv 0)) (pe_lenQ hb (pv 1)) (nomark _)) (pss_one (ps_ret pe_bl)) pss_nil)
        (pss_one (ps_ret (pe_cmpR (op_eqD hu) (pe_lcn 2 sc_alike.nd (pi_range1 (by rfl) (hb _ (by decide +kernel)) (pa_cons (pe_lenQ hb (pv 1)) pa_nil)) (fun _ _ _ _ _ => pts_one (pt_not (pt_val (C8.pe_c C (hr.mono (Nat.le_refl _)) (Nat.le_refl _) (by rfl) (pa_cons (pe_ix (r := rIxL K) ix_list (pv 0) (pv 2) (fun _ _ => rfl)) (pa_cons (pe_ix (r := rIxL K) ix_list (pv 1) (pv 2) (fun _ _ => rfl)) pa_nil)))))) (fun _ _ _ _ _ => pv 2) (fun _ _ _ _ _ => pg_name sc_alike.nd rfl (.inl rfl)) (blkOk_by (N := nAlike) (sc := defScope sAlike) (own := [("k", 2)]) (by decide +kernel)) rfl) (pe_lst pa_nil) (nomark _)))))) pss_nil)
        pss_never, ?_⟩
      have z1 : (isD "tuple" (.list es) || isD "list" (.list es)) = true := by rw [isD_of (T := "list") (y := "list") (b := true) (by decide +kernel) rfl, Bool.or_true]
      refine Evl.q_when (b := (isD "tuple" (.list es) || isD "list" (.list es))) (t_ofB (d_isTL (d_var a1) rfl)) (fun _ H1 e1 => ?_) fun h => by rw [z1] at h; cases h
      refine Evl.q_when (b := !(isD "tuple" (.list es) || isD "list" (.list es)) || !decide (isD "list" (.list es) = isD "list" (.list es))) (Evl.et_or (Evl.et_not (t_ofB (d_isTL (d_var (a0.mono e1)) rfl))) fun _ => t_ofD (d_neB (d_isD (d_var (a0.mono e1))) (d_isD (d_var (a1.mono e1))))) (fun h => by rw [z1, decide_eq_true rfl] at h; cases h) fun _ H2 e2 => ?_
      have b0 := (a0.mono e1).mono e2
      have b1 := (a1.mono e1).mono e2
      refine Evl.q_when (b := !decide ((es.length : Int) = (es.length : Int))) (t_ofD (d_neI (d_lenL (d_var b0)) (d_lenL (d_var b1)))) (fun h => by rw [decide_eq_true rfl] at h; cases h) fun _ H3 e3 => ?_
      have c0 := b0.mono e3
      have c1 := b1.mono e3
      have hlen : es.length ≤ 40000 := ho.1
      refine AsKit.s_ret (K := K) (d_eqD (d := .list []) (e := .list []) (d_eqTo (d_lcR1 (hi := (es.length : Int)) (fun _ => false) id (ds_cons (d_lenL (d_var c1)) ds_nil) (by omega) (fun _ _ h => by cases h) fun i hi x H4 e4 hx k hk => hk _ rfl (EvT_not_true (t_ofB (K := K) ?_)) fun h => by cases h) ?_) (d_lst ds_nil (Nat.zero_le _)) (by decide +kernel) (by decide +kernel)) fun u H4 e4 hu => q u H4 (((e1.trans e2).trans e3).trans e4) ?_
      · have hi2 : i < es.length := by omega
        have g0 : At K ((wipe (start nAlike [v, v2]) [2]).set 2 (some x)) H4 0 (.list es) := ⟨_, rfl, dp_ex (((e1.trans e2).trans e3).trans e4) h0⟩
        have g1 : At K ((wipe (start nAlike [v, v2]) [2]).set 2 (some x)) H4 1 (.list es) := ⟨_, rfl, dp_ex (((e1.trans e2).trans e3).trans e4) h1⟩
        have g2 : At K ((wipe (start nAlike [v, v2]) [2]).set 2 (some x)) H4 2 (.int (0 + (i : Int))) := ⟨_, rfl, hx⟩
        have hix : atI es (0 + (i : Int)) = some es[i] := by rw [Int.zero_add]; exact atI_nat (List.getElem?_eq_getElem hi2)
        exact d_call (ds_cons (d_ixL (d_var g0) (d_var g2) hix) (ds_cons (d_ixL (d_var g1) (d_var g2) hix) ds_nil)) ⟨es[i], rfl, ho.2 _ (List.getElem_mem hi2)⟩
      · rw [List.filter_eq_nil_iff.mpr fun _ _ h => by cases h]
        rfl
      · have e : PyData.eqv (.list []) (.list []) = true := by decide +kernel
        rw [e] at hu
        exact hu
    | int i => exact alike_body0 hb f cdv A outer s H Q E h0 h1 trivial q
    | str z => exact alike_body0 hb f cdv A outer s H Q E h0 h1 trivial q
    | none => exact alike_body0 hb f cdv A outer s H Q E h0 h1 trivial q
    | bool z => exact alike_body0 hb f cdv A outer s H Q E h0 h1 trivial q
    | _ => exact ho.elim
end
end K27

set_option maxHeartbeats 4000000
set_option autoImplicit false
/-! the law's own defs: a reader drawn. -/
namespace K27
open PySem PySem.Spec PyProof.Rows L2 AsSort AsKit AsToo AsObj
open Evl (Ex Ev EvT EvA)
section
variable {P : Program} {w : World} {K : PySem.W.Frag} {mg : Str → Option Value} {base : Heap}
abbrev sReader : Stmt := top 62
abbrev nReader : List Str := ["row", "letters", "most", "size", "rows", "sign", "stand"]
theorem sc_reader : FnScope nReader ["row", "letters", "most"] (defScope sReader) := ⟨rfl, rfl, rfl, by decide +kernel, rfl, by decide +kernel, by decide +kernel⟩
def spReader (K : PySem.W.Frag) : Sp := fun vs H Q _ => ∃ (r : Addr) (S : Addr × List Int) (y : Str) (m : Nat), vs = [.ref r, .str y, .int (m : Int)] ∧ Row K S H r ∧ isLetS y = true ∧ 1 ≤ m ∧ m ≤ 100 ∧
  ∀ (v : V) (M : Mach) (H' : Hp), Dp K H' v M.d → M.Ok → M.y = y → M.rs.length ≤ m → Bt r H H' → Row K S H' r → Q v H'
abbrev tRowL (K : PySem.W.Frag) : TE := tLc (iStr (tVar 1)) (gName 5) tYes (tCall (spTaken K) [] C8.E0 (tCons (tVar 0) (tCons (tVar 3) tNil))) [5]
theorem ev_rowL {S : Addr × List Int} {r : Addr} {y : Str} {size : Nat} {σ : L2.St} {H1 : Hp} {Q : VK} (h0 : σ[0]? = some (some (.ref r))) (h1 : σ[1]? = some (some (.str y))) (h3 : σ[3]? = some (some (.int (size : Int)))) (hR : Row K S H1 r) (hs : 1 ≤ size) (hs2 : size ≤ 1000) (hy : y.length ≤ 1000)
    (q : ∀ v H2 (ns : List Nat), ns.length = y.length → (∀ n ∈ ns, n < size) → Bt r H1 H2 → Row K S H2 r → Dp K H2 v (rowP ns) → Q v H2) : tCB (rTupQ K) (tCons (tRowL K) tNil) σ H1 Q := by
  have hyl : y.cps.toList.length = y.length := Array.length_toList
  refine ⟨.str y, h1, y, rfl, fun D hD => ?_⟩
  have nD := row_new (o := .lst []) hR hD
  have w0 : (wipe σ [5])[0]? = some (some (.ref r)) := by rw [wipe_out (by simp)]; exact h0
  have w3 : (wipe σ [5])[3]? = some (some (.int (size : Int))) := by rw [wipe_out (by simp)]; exact h3
  refine lc_str (fun i H' => Bt r H1 H' ∧ Row K S H' r ∧ ∃ ns : List Nat, H' D = some (.lst (ns.map fun (n : Nat) => V.int n)) ∧ ns.length = i ∧ ∀ n ∈ ns, n < size) ⟨nD.2.2, nD.2.1, [], upd_same, rfl, fun _ h => nomatch h⟩ (fun i c H' hi p => ?_) fun H' p => ?_
  · obtain ⟨p1, p2, ns, p3, p4, p5⟩ := p
    refine ⟨by show (((σ.set 5 none).set 5 _).set 5 none) = σ.set 5 none; rw [List.set_set, List.set_set], ?_⟩
    have s0 : ((wipe σ [5]).set 5 (some (V.str ⟨#[c]⟩)))[0]? = some (some (.ref r)) := by rw [List.getElem?_set_ne (by decide)]; exact w0
    have s3 : ((wipe σ [5]).set 5 (some (V.str ⟨#[c]⟩)))[3]? = some (some (.int (size : Int))) := by rw [List.getElem?_set_ne (by decide)]; exact w3
    refine ⟨.ref r, s0, .int (size : Int), s3, r, S, (size : Int), rfl, p2, by omega, by omega, fun k H2 hk b2 R2 => ?_⟩
    have h3' : H2 D = some (.lst (ns.map fun (n : Nat) => V.int n)) := b2 D _ nD.1 p3
    have kk := row_keep (o := .lst ((ns.map fun (n : Nat) => V.int n) ++ [.int (k : Int)])) hR hD (p1.trans b2) R2
    have hi2 : i < y.cps.toList.length := (List.getElem?_eq_some_iff.mp hi).1
    refine ⟨_, h3', Evl.sz_lt (by rw [List.length_map, p4]; omega), kk.2, kk.1, ns ++ [k], by rw [upd_same, List.map_append]; rfl, by rw [List.length_append, p4]; rfl, fun n hn => ?_⟩
    rcases List.mem_append.mp hn with hn | hn
    · exact p5 n hn
    · rw [List.mem_singleton.mp hn]
      omega
  · obtain ⟨p1, p2, ns, p3, p4, p5⟩ := p
    have hdp : ∀ G, DpAll K G (ns.map fun (n : Nat) => V.int n) (ns.map fun (n : Nat) => PyData.int n) := fun G => by
      induction ns with
      | nil => exact .nil
      | cons n ns ih => exact .cons (.int _) (by
        clear p3 p4
        have go : ∀ l : List Nat, DpAll K G (l.map fun (n : Nat) => V.int n) (l.map fun (n : Nat) => PyData.int n) := fun l => by
          induction l with
          | nil => exact .nil
          | cons a l ih => exact .cons (.int _) ih
        exact go ns)
    refine ⟨D, _, rfl, .inl ⟨Evl.sq_of p3, fun l nl => ?_⟩⟩
    have z := row_new (o := .tup (ns.map fun (n : Nat) => V.int n)) p2 nl
    exact q _ _ ns (by rw [p4, hyl]) p5 (p1.trans z.2.2) z.2.1 (.tup (Evl.st_of upd_same) (hdp _))
theorem imm_rowP (r : List Nat) : imm (rowP r) = true := by
  show immAll (r.map fun (n : Nat) => PyData.int n) = true
  exact immAll_of fun d hd => by
    obtain ⟨n, _, rfl⟩ := List.mem_map.mp hd
    rfl
theorem c_lawreader (D : Df K mg "_law_reader" sReader) (hb : Bl mg) (C1 : Cl P w K mg base 1 "_law_taken" (spTaken K) []) : Cl P w K mg base 2 "_law_reader" (spReader K) [] := by
  refine cl_of D sc_reader (fun vs H Q E ⟨r, S, y, m, h, _⟩ => by rw [h]; rfl) (fun _ _ _ _ _ _ us hl => match us, hl with | [_, _, _], _ => rfl) fun f cdv A outer s H vs Q E hr h => ?_
  obtain ⟨r, S, y, m, rfl, hR, hy, hm, hm2, q⟩ := h
  refine ⟨_, pss_cons (ps_set (i := 3) sc_reader.nd rfl (.inr rfl) (pe_op op_add pe_int (C8.pe_c C1 hr (by decide) (by rfl) (pa_cons (pv 0) (pa_cons (pv 2) pa_nil)))))
    (pss_cons (ps_setLcn (i := 4) (te := tCB (rTupQ K) (tCons (tRowL K) tNil)) 6 sc_reader.nd (pi_range1 (by rfl) (hb _ (by decide +kernel)) (pa_cons (pv 3) pa_nil)) (fun _ _ _ _ _ => pts_nil)
      (fun _ _ _ _ _ => pe_tupQ hb (pe_lcn (te := tCall (spTaken K) [] C8.E0 (tCons (tVar 0) (tCons (tVar 3) tNil))) 5 sc_reader.nd (pi_str (pv 1)) (fun _ _ _ _ _ => pts_nil) (fun _ _ _ _ _ => C8.pe_c C1 hr (by decide) (by rfl) (pa_cons (pv 0) (pa_cons (pv 3) pa_nil))) (fun _ _ _ _ _ => pg_name sc_reader.nd rfl (.inl rfl)) (blkOk_by (N := nReader) (own := [("sign", 5)]) rfl) rfl))
      (fun _ _ _ _ _ => pg_name sc_reader.nd rfl (.inl rfl)) (blkOk_by (N := nReader) (sc := defScope sReader) (own := [("stand", 6)]) (by decide +kernel)) rfl rfl rfl (sw_true rfl rfl rfl (by decide +kernel)))
    (pss_one (ps_ret (pe_tup (pa_cons (pv 1) (pa_cons (pe_tupQ hb (pv 4)) (pa_cons (pe_tupQ hb (pe_lcn (te := tOp rEq (tCall (spTaken K) [] C8.E0 (tCons (tVar 0) (tCons (tC (.int 2)) tNil))) (tC (.int 0))) 6 sc_reader.nd (pi_range1 (by rfl) (hb _ (by decide +kernel)) (pa_cons (pv 3) pa_nil)) (fun _ _ _ _ _ => pts_nil)
      (fun _ _ _ _ _ => pe_cmpR op_eq (C8.pe_c C1 hr (by decide) (by rfl) (pa_cons (pv 0) (pa_cons pe_int pa_nil))) pe_int (nomark _))
      (fun _ _ _ _ _ => pg_name sc_reader.nd rfl (.inl rfl)) (blkOk_by (N := nReader) (sc := defScope sReader) (own := [("stand", 6)]) (by decide +kernel)) rfl)) pa_nil))))))), ?_⟩
  have hyl : y.length ≤ 4 := by
    have := hy
    unfold isLetS at this
    simp only [Bool.and_eq_true, decide_eq_true_eq] at this
    omega
  -- size
  refine ⟨.ref r, rfl, .int (m : Int), rfl, r, S, (m : Int), rfl, hR, by omega, by omega, fun k H1 hk hb1 hR1 => ?_⟩
  refine ⟨_, _, rfl, rfl, ?_⟩
  obtain ⟨size, esz⟩ : ∃ size : Nat, size = k + 1 := ⟨_, rfl⟩
  have e1 : ((1 : Int) + (k : Int)) = (size : Int) := by omega
  show gName 3 (V.int (1 + (k : Int))) _ H1 _
  rw [e1]
  have hs1 : 1 ≤ size := by omega
  have hs2 : size ≤ m := by omega
  -- rows
  refine ⟨.int (size : Int), rfl, _, rfl, by omega, by omega, fun D hD => ?_⟩
  have nD := row_new (o := .lst []) hR1 hD
  have himm : ∀ rs : List (List Nat), immAll (rs.map rowP) = true := fun rs => immAll_of fun d hd => by
    obtain ⟨p, _, rfl⟩ := List.mem_map.mp hd
    exact imm_rowP p
  refine lc_range (lo := 0) (n := size) (fun i H' => Bt r H1 H' ∧ Row K S H' r ∧ ∃ (acc : List V) (rs : List (List Nat)), H' D = some (.lst acc) ∧ DpAll K H' acc (rs.map rowP) ∧ rs.length = i ∧ ∀ q ∈ rs, q.length = y.length ∧ ∀ n ∈ q, n < size) ⟨nD.2.2, nD.2.1, [], [], upd_same, .nil, rfl, fun _ h => nomatch h⟩ (fun i H' hi p => ?_) fun H' p => ?_
  · obtain ⟨p1, p2, acc, rs, p3, p4, p5, p6⟩ := p
    refine ⟨rfl, ?_⟩
    refine ev_rowL (S := S) (r := r) (y := y) (size := size) rfl rfl rfl p2 hs1 (by omega) (by omega) fun v H2 ns l1 l2 b2 R2 hv => ?_
    have h3 : H2 D = some (.lst acc) := b2 D _ nD.1 p3
    have kk := row_keep (o := .lst (acc ++ [v])) hR1 hD (p1.trans b2) R2
    refine ⟨acc, h3, Evl.sz_lt (by rw [dpAll_len p4, List.length_map, p5]; omega), kk.2, kk.1, acc ++ [v], rs ++ [ns], upd_same, ?_, by rw [List.length_append, p5]; rfl, fun q hq => ?_⟩
    · rw [List.map_append]
      exact dpAll_snoc (dp_tu (tu_lst h3) (imm_rowP ns) hv) (dpAll_tu (tu_lst h3) (himm rs) (dpAll_tu (tu_bt p2 b2) (himm rs) p4))
    · rcases List.mem_append.mp hq with hq | hq
      · exact p6 q hq
      · rw [List.mem_singleton.mp hq]
        exact ⟨l1, l2⟩
  · obtain ⟨p1, p2, acc, rs, p3, p4, p5, p6⟩ := p
    -- the answer
    refine ⟨.str y, rfl, .ref D, rfl, D, acc, rfl, .inl ⟨Evl.sq_of p3, fun l nl => ?_⟩⟩
    have z := row_new (o := .tup acc) p2 nl
    obtain ⟨H2, eH2⟩ : ∃ H2, H2 = upd H' l (.tup acc) := ⟨_, rfl⟩
    rw [← eH2] at z ⊢
    have hT : Dp K H2 (.ref l) (.tuple (rs.map rowP)) := .tup (Evl.st_of (by rw [eH2, upd_same])) (dpAll_tu (tu_bt p2 z.2.2) (himm rs) p4)
    refine ⟨.int (size : Int), rfl, _, rfl, by omega, by omega, fun D2 hD2 => ?_⟩
    have nD2 := row_new (o := .lst []) z.2.1 hD2
    refine lc_range (lo := 0) (n := size) (fun i H' => Bt r H2 H' ∧ Row K S H' r ∧ ∃ (bs : List Bool), H' D2 = some (.lst (bs.map V.bl)) ∧ bs.length = i) ⟨nD2.2.2, nD2.2.1, [], upd_same, rfl⟩ (fun i H3 hi w => ?_) fun H3 w => ?_
    · obtain ⟨w1, w2, bs, w3, w4⟩ := w
      refine ⟨rfl, ?_⟩
      refine ⟨.ref r, rfl, r, S, 2, rfl, w2, by omega, by omega, fun k2 H4 hk2 b4 R4 => ?_⟩
      have h3 : H4 D2 = some (.lst (bs.map V.bl)) := b4 D2 _ nD2.1 w3
      have kk := row_keep (o := .lst (bs.map V.bl ++ [V.bl (decide (V.int (k2 : Int) = V.int 0))])) z.2.1 hD2 (w1.trans b4) R4
      exact ⟨rfl, _, h3, Evl.sz_lt (by rw [List.length_map, w4]; omega), kk.2, kk.1, bs ++ [decide (V.int (k2 : Int) = V.int 0)], by rw [upd_same, List.map_append]; rfl, by rw [List.length_append, w4]; rfl⟩
    · obtain ⟨w1, w2, bs, w3, w4⟩ := w
      refine ⟨D2, _, rfl, .inl ⟨Evl.sq_of w3, fun l2 nl2 => ?_⟩⟩
      have z2 := row_new (o := .tup (bs.map V.bl)) w2 nl2
      refine ⟨by show 3 ≤ sizeLine; decide, fun l3 nl3 => ?_⟩
      have z3 := row_new (o := .tup [.str y, .ref l, .ref l2]) z2.2.1 nl3
      have b25 := w1.trans (z2.2.2.trans z3.2.2)
      have hbs : ∀ G, DpAll K G (bs.map V.bl) (bs.map PyData.bool) := fun G => by
        clear w3 w4 z2 z3 nl2 nl3 b25
        induction bs with
        | nil => exact .nil
        | cons b bs ih => exact .cons (.bl _) ih
      have e2 : Ex (upd H3 l2 (.tup (bs.map V.bl))) (upd (upd H3 l2 (.tup (bs.map V.bl))) l3 (.tup [.str y, .ref l, .ref l2])) := Ex.new nl3
      refine q _ ⟨y, rs, bs⟩ _ (.tup (Evl.st_of upd_same) (.cons (.str y) (.cons (dp_tu (tu_bt z.2.1 b25) (himm rs) hT) (.cons (.tup (Evl.st_of (e2 _ _ upd_same)) (hbs _)) .nil)))) ⟨hy, hyl, by show 1 ≤ rs.length; omega, by show rs.length ≤ 200; omega, by show bs.length = rs.length; omega, fun q hq => ?_⟩ rfl (by show rs.length ≤ m; omega) (((hb1.trans p1).trans z.2.2).trans b25) z3.2.1
      obtain ⟨g1, g2⟩ := p6 q hq
      exact ⟨g1, fun n hn => by show n < rs.length; rw [p5]; exact g2 n hn⟩
end
end K27

set_option maxHeartbeats 4000000
set_option autoImplicit true
namespace K27
end K27

set_option maxHeartbeats 4000000
set_option autoImplicit false
/-! mend, with any right mender. -/
namespace K27
open PySem PySem.Spec PyProof.Rows L2 AsSort AsKit AsToo AsObj
open Evl (Ex Ev EvT EvA)
open LamX (ExtN TabB)
open NdefX (TabsN NTab)
section
variable {P : Program} {w : World} {K : PySem.W.Frag} {mg : Str → Option Value} {base : Heap} {C : Addr} {Ts : List NTab}
theorem DkAt.extN {H H' : Hp} {a ps : Addr} {d : Dk} (h : DkAt K C H a ps d) (e : ExtN H H') : DkAt K C H' a ps d := let ⟨dx, vs, h1, h2, h3⟩ := h; ⟨dx, vs, e _ _ h1 (fun _ z => nomatch z), e _ _ h2 (fun _ z => nomatch z), dpAll_extN e h3⟩
abbrev nMend : List Str := ["self", "mender", "row", "end"]
theorem sc_dmend : FnScope nMend ["self", "mender"] (defScope (dm 3)) := ⟨rfl, rfl, rfl, by decide +kernel, rfl, by decide +kernel, by decide +kernel⟩
def spMendR (K : PySem.W.Frag) (C : Addr) (Ts : List NTab) : Sp := fun vs H Q _ => ∃ (a ps : Addr) (d : Dk) (v : V) (ms : List (Str × Str)), vs = [.ref a, v] ∧ DkAt K C H a ps d ∧ d.steps.length ≤ 1000 ∧ Dp K H v (.tuple (ms.map kD)) ∧ OkM d.y ms ∧ d.now.length ≤ 400 ∧ TabsN Ts H ∧
  ∀ H1 H', ExtN H H1 → TabsN Ts H1 → DkAt K C H1 a ps d → Bd a ps H1 H' → DkAt K C H' a ps (d.add (mend ms d.now).1 (mend ms d.now).2) → Q .non H'
theorem m_mendR (c : DkC K C) (D : DfM K C "mend" "Desk.mend" (dm 3)) (C1 : Cl P w K mg base 6 "check_mender" (spCheckMender K) []) (C2 : Cl P w K mg base 5 "mending_of" (spMendingOf K Ts) []) (C3 : Ml P w K mg base 1 C "add_step" nAdd (spAdd K C)) : Ml P w K mg base 7 C "mend" ["self", "mender"] (spMendR K C Ts) := by
  refine ml_of c.cl D sc_dmend (fun vs H Q E ⟨a, ps, d, v, ms, h, _⟩ => by rw [h]; rfl) (fun _ _ _ _ _ _ us hl => match us, hl with | [_, _], _ => rfl) fun f cdv A outer s H vs Q E hr h => ?_
  obtain ⟨a, ps, d, v, ms, rfl, hd, hl, hm, om, hnl, hT, q⟩ := h
  refine ⟨_, pss_cons (ps_expr (C8.pe_c C1 hr (by decide) (by rfl) (pa_cons (pe_fld (pv 0) rfl) (pa_cons (pv 1) pa_nil))))
    (pss_cons (ps_asg (C8.pe_c C2 hr (by decide) (by rfl) (pa_cons (pv 1) (pa_cons (pe_fld (pv 0) rfl) pa_nil))) (pg_tup rfl (pgs_cons (pg_name (i := 2) sc_dmend.nd rfl (.inl rfl)) (pgs_cons (pg_name (i := 3) sc_dmend.nd rfl (.inl rfl)) pgs_nil))))
    (pss_one (ps_expr (pe_ml C3 hr (by decide) (pv 0) (pa_cons (pv 2) (pa_cons (pv 3) pa_nil)))))), ?_⟩
  obtain ⟨dx, vs, h1, h2, h3⟩ := id hd
  refine ⟨.ref a, rfl, a, C, dx, _, .str d.y, rfl, h1, c.cl, c.nl, rfl, v, rfl, [.str d.y, .tuple (ms.map kD)], .cons (.str _) (.cons hm .nil), ⟨d.y, ms, rfl, om⟩, fun u H1 e1 _ => ?_⟩
  refine ⟨v, rfl, .ref a, rfl, a, C, dx, _, .str d.now, rfl, e1 _ _ h1, c.cl, c.nn, rfl, ?_⟩
  refine ⟨v, d.y, ms, d.now, rfl, dp_ex e1 hm, hnl, by have := om.2.2.2.1; omega, om.2.2.2.2.2, hT.ext e1, fun u2 H2 eN t2 hu2 => ?_⟩
  refine g_two (K := K) hu2 fun va vb ha hb2 => ?_
  cases hb2
  have hd2 : DkAt K C H2 a ps d := (hd.ex e1).extN eN
  obtain ⟨dx2, vs2, g1, g2, g3⟩ := id hd2
  refine ⟨.ref a, rfl, a, dx2, _, rfl, g1, rfl, va, rfl, .str (mend ms d.now).2, rfl, a, ps, d, va, (mend ms d.now).1, (mend ms d.now).2, rfl, hd2, ha, hl, fun H3 b3 hd3 => ?_⟩
  exact q H2 H3 ((ExtN.of e1).trans eN) t2 hd2 b3 hd3
end
end K27

set_option maxHeartbeats 4000000
set_option autoImplicit false
/-! the law's own reader, and the text it shows. -/
namespace K27
open PySem PySem.Spec PyProof.Rows L2 AsSort AsKit AsToo AsObj
open Evl (Ex Ev EvT EvA)
abbrev sLed : Stmt := top 63
abbrev sSays : Stmt := top 64
abbrev sShown : Stmt := top 69
section
variable {P : Program} {w : World} {K : PySem.W.Frag} {mg : Str → Option Value} {base : Heap}
abbrev nLed : List Str := ["reader", "stand", "text", "sign"]
theorem sc_led : FnScope nLed ["reader", "stand", "text"] (defScope sLed) := ⟨rfl, rfl, rfl, by decide +kernel, rfl, by decide +kernel, by decide +kernel⟩
theorem c_led (D : Df K mg "_law_led" sLed) (hb : Bl mg) : Cl P w K mg base 1 "_law_led" (spStandFrom K) [] := by
  refine cl_of D sc_led (fun vs H Q E ⟨M, s, z, h, _⟩ => dpAll_len h) (fun _ _ _ _ _ _ us hl => match us, hl with | [_, _, _], _ => rfl) fun f cdv A outer s H vs Q E hr h => ?_
  obtain ⟨M, s0, z, hd, ok, hs0, hz, q⟩ := h
  obtain ⟨v, v1, v2, rfl, h0, hst, h1⟩ := dp3 hd
  refine ⟨_, pss_cons (ps_for PassesOwn.never rfl (pi_str (pv 2)) (pg_name (i := 3) sc_led.nd rfl (.inl rfl)) (pss_one (ps_set (i := 1) sc_led.nd rfl (.inl rfl) (pe_ix ix_tup (pe_ix ix_tup (pe_ix ix_tup (pv 0) pe_int (fun _ _ => rfl)) (pv 1) (fun _ _ => rfl)) (pe_index rfl (pe_ix ix_tup (pv 0) pe_int (fun _ _ => rfl)) (pv 3)) (fun _ _ => rfl)))))
    (pss_one (ps_ret (pv 1))), ?_⟩
  cases h1
  cases hst
  refine ⟨.str z, rfl, z, rfl, ?_⟩
  have hal : ∀ c ∈ z.cps.toList, c ∈ M.y.cps.toList := fun c hc => of_decide_eq_true (List.all_eq_true.mp hz c hc)
  refine for_signs (fun i σ' H' => ∃ x3, σ' = [some v, some (.int (M.led s0 (z.cps.toList.take i) : Nat)), some (.str z), x3] ∧ Ex H H') ⟨_, rfl, Ex.refl H⟩ (fun i c σ' H' hi p => ?_) fun σ' H' p => ?_
  · obtain ⟨x3, rfl, e⟩ := p
    have hcm : c ∈ M.y.cps.toList := hal c (List.mem_of_getElem? hi)
    have hlt := led_lt ok (z.cps.toList.take i) s0 hs0 fun x hx => hal x (List.mem_of_mem_take hx)
    obtain ⟨r, hr1, hr2, _⟩ := step_ok ok hlt hcm
    have et : z.cps.toList.take (i + 1) = z.cps.toList.take i ++ [c] := by rw [List.take_add_one, hi]; simp
    obtain ⟨σ9, e9⟩ : ∃ σ9 : L2.St, σ9 = [some v, some (.int (M.led s0 (z.cps.toList.take i) : Nat)), some (.str z), some (.str ⟨#[c]⟩)] := ⟨_, rfl⟩
    have c0 : At K σ9 H' 0 M.d := ⟨v, by rw [e9]; rfl, dp_ex e h0⟩
    have c1 : At K σ9 H' 1 (.int (M.led s0 (z.cps.toList.take i) : Nat)) := ⟨_, by rw [e9]; rfl, .int _⟩
    have c3 : At K σ9 H' 3 (.str ⟨#[c]⟩) := ⟨_, by rw [e9]; rfl, .str _⟩
    show tAsg _ _ _ ([some v, some (.int (M.led s0 (z.cps.toList.take i) : Nat)), some (.str z), some (.str ⟨#[c]⟩)] : L2.St) H'
    rw [← e9]
    have dl := d_ixT (K := K) (i := 0) (d_var c0) (d_int (i := 0)) (show atI _ 0 = some (.str M.y) from rfl)
    have dr := d_ixT (K := K) (i := 1) (d_var c0) (d_int (i := 1)) (show atI _ 1 = some (.tuple (M.rs.map rowP)) from rfl)
    refine AsKit.s_asg (K := K) (d := .int (M.led s0 (z.cps.toList.take (i + 1)) : Nat)) (d_ixT (ds := r.map fun (n : Nat) => PyData.int n) (i := (pos c M.y.cps.toList : Nat)) (d_ixT (d := rowP r) dr (d_var c1) (atI_nat (by rw [List.getElem?_map, hr1]; rfl))) (d_index dl (d_var c3) (pos_at hcm) fun j hj => pos_first j hj) (atI_nat ?_)) fun u H2 e2 hu => ?_
    · rw [List.getElem?_map, hr2, et]
      unfold Mach.led
      rw [List.foldl_append]
      rfl
    · cases hu
      rw [e9]
      exact ⟨_, rfl, e.trans e2⟩
  · obtain ⟨x3, rfl, e⟩ := p
    rw [List.take_length]
    exact ⟨_, rfl, q H' e⟩
theorem sc_says : FnScope ["reader", "text"] ["reader", "text"] (defScope sSays) := ⟨rfl, rfl, rfl, by decide +kernel, rfl, by decide +kernel, by decide +kernel⟩
def spSays (K : PySem.W.Frag) : Sp := fun vs H Q _ => ∃ (M : Mach) (z : Str), DpAll K H vs [M.d, .str z] ∧ M.Ok ∧ allIn M.y z = true ∧ ∀ v H', Ex H H' → Dp K H' v (.bool (M.says z.cps.toList)) → Q v H'
theorem c_says (D : Df K mg "_law_says" sSays) (C1 : Cl P w K mg base 1 "_law_led" (spStandFrom K) []) : Cl P w K mg base 2 "_law_says" (spSays K) [] := by
  refine cl_of D sc_says (fun vs H Q E ⟨M, z, h, _⟩ => dpAll_len h) (fun _ _ _ _ _ _ us hl => match us, hl with | [_, _], _ => rfl) fun f cdv A outer s H vs Q E hr h => ?_
  obtain ⟨M, z, hd, ok, hz, q⟩ := h
  obtain ⟨v, v2, rfl, h0, h1⟩ := dp2 hd
  refine ⟨_, pss_one (ps_ret (pe_ix ix_tup (pe_ix ix_tup (pv 0) pe_int (fun _ _ => rfl)) (C8.pe_c C1 hr (by decide) (by rfl) (pa_cons (pv 0) (pa_cons pe_int (pa_cons (pv 1) pa_nil)))) (fun _ _ => rfl))), ?_⟩
  have a0 : At K (start ["reader", "text"] [v, v2]) H 0 M.d := ⟨_, rfl, h0⟩
  have hal : ∀ c ∈ z.cps.toList, c ∈ M.y.cps.toList := fun c hc => of_decide_eq_true (List.all_eq_true.mp hz c hc)
  have hlt := led_lt ok z.cps.toList 0 (by have := ok.n1; omega) hal
  have led : EvD K (tCall (spStandFrom K) [] C8.E0 (tCons (tVar 0) (tCons (tC (.int 0)) (tCons (tVar 1) tNil)))) (start ["reader", "text"] [v, v2]) H (.int (M.led 0 z.cps.toList : Nat)) := fun H1 x Q1 q1 =>
    ⟨v, rfl, v2, rfl, M, 0, z, .cons (dp_ex x h0) (.cons (.int 0) (.cons (dp_ex x h1) .nil)), ok, by have := ok.n1; omega, hz, fun H' e => q1 _ H' e (.int _)⟩
  have hy : M.ys[M.led 0 z.cps.toList]? = some (M.says z.cps.toList) := by
    have hl2 : M.led 0 z.cps.toList < M.ys.length := by rw [ok.ye]; exact hlt
    unfold Mach.says
    rw [List.getD_eq_getElem?_getD, List.getElem?_eq_getElem hl2]
    rfl
  exact AsKit.s_ret (K := K) (d_ixT (d_ixT (d := PyData.tuple (M.ys.map PyData.bool)) (i := 2) (d_var a0) (d_int (i := 2)) rfl) led (atI_nat (by rw [List.getElem?_map, hy]; rfl))) q
theorem sc_lshown : FnScope ["text"] ["text"] (defScope sShown) := ⟨rfl, rfl, rfl, by decide +kernel, rfl, by decide +kernel, by decide +kernel⟩
theorem c_lshown (D : Df K mg "_law_shown" sShown) : Cl P w K mg base 1 "_law_shown" spPSide [] := by
  refine cl_of D sc_lshown (fun vs H Q E ⟨v, h, _⟩ => by rw [h]; rfl) (fun _ _ _ _ _ _ us hl => match us, hl with | [_], _ => rfl) fun f cdv A outer s H vs Q E hr h => ?_
  obtain ⟨z, rfl, q⟩ := h
  refine ⟨_, pss_one (ps_ret (pe_ifExp (pt_cmpR op_ne (pv 0) pe_str (nomark _)) (pv 0) pe_str)), ?_⟩
  refine AsKit.s_ret (K := K) (d := .str (shown z)) (d_ifE (b := !decide (z = "")) (t_ofD (K := K) (d_neS (d_var ⟨_, rfl, .str z⟩) d_str)) (fun h => d_eqTo (d_var ⟨_, rfl, .str z⟩) ?_) fun h => d_eqTo d_str ?_) fun v H1 e1 hv => by cases hv; exact q H1 e1
  · have : ¬ z = "" := by simpa using h
    unfold shown
    rw [if_neg this]
  · have : z = "" := by simpa using h
    unfold shown
    rw [if_pos this]
end
end K27

set_option maxHeartbeats 4000000
set_option autoImplicit false
/-! the law's own row of deeds, done. -/
namespace K27
open PySem PySem.Spec PyProof.Rows L2 AsSort AsKit AsToo AsObj
open Evl (Ex Ev EvT EvA)
open LamX (ExtN TabB)
open NdefX (TabsN NTab)
abbrev sLBehind : Stmt := top 66
abbrev sLeads : Stmt := top 67
theorem deeds_m2 {ks : List (Str × Str)} {t : Str} {d : PyData} (h : d ∈ deedsL ks t) : ∃ p k, k ∈ ks ∧ p ≤ t.length ∧ d = dD p k := by
  unfold deedsL hitsTo at h
  obtain ⟨q, hq, h⟩ := List.mem_flatMap.mp h
  unfold hits at h
  obtain ⟨m, hm, e⟩ := List.mem_map.mp h
  have hm2 := (List.mem_filter.mp hm).1
  unfold sortO at hm2
  exact ⟨q, m, List.mem_mergeSort.mp hm2, by have := List.mem_range.mp hq; omega, e.symm⟩
theorem shaped_dD {y : Str} {p : Nat} {k : Str × Str} (hy : PyData.strOk y = true) (h1 : allIn y k.1 = true) (h2 : allIn y k.2 = true) : SeqAt.shaped (dD p k) = true := by
  unfold SeqAt.shaped
  simp [dD, PyData.canLay0, PyData.canLayAll0, PyData.depth, PyData.depthAll, strOk_in hy h1, strOk_in hy h2]
theorem lay_dds : ∀ {ds : List PyData}, (∀ d ∈ ds, ∃ p k, d = dD p k ∧ PyData.strOk k.1 = true ∧ PyData.strOk k.2 = true) → PyData.canLayAll0 ds = true ∧ PyData.depthAll ds ≤ 2
  | [], _ => by simp [PyData.canLayAll0, PyData.depthAll]
  | d :: ds, h => by
    obtain ⟨p, k, rfl, h1, h2⟩ := h d (List.mem_cons_self ..)
    have z := lay_dds fun e he => h e (List.mem_cons_of_mem _ he)
    refine ⟨by simp [dD, PyData.canLay0, PyData.canLayAll0, h1, h2, z.1], ?_⟩
    have e : PyData.depthAll (dD p k :: ds) = max (dD p k).depth (PyData.depthAll ds) := by simp [PyData.depthAll]
    have e2 : (dD p k).depth ≤ 2 := by simp [dD, PyData.depth, PyData.depthAll]
    rw [e]
    have := z.2
    omega
theorem shaped_deeds {ds : List PyData} (h : ∀ d ∈ ds, ∃ p k, d = dD p k ∧ PyData.strOk k.1 = true ∧ PyData.strOk k.2 = true) : SeqAt.shaped (.list ds) = true := by
  have z := lay_dds h
  unfold SeqAt.shaped
  have e : (PyData.list ds).depth = PyData.depthAll ds + 1 := by simp [PyData.depth, Nat.add_comm]
  rw [e, decide_eq_true (by have := z.2; omega), Bool.and_true]
  simpa [PyData.canLay0] using z.1
theorem iteF' {A B : Prop} (h : B) : if false = true then A else B := by
  rw [if_neg Bool.false_ne_true]
  exact h
section
variable {K : PySem.W.Frag} {σ : L2.St} {H : Hp}
theorem s_forE {D : Ends} {te : TE} {tu : TS} {g : TG} {ds : List PyData} (h : EvD K te σ H (.list ds)) (k : ∀ H1, Ex H H1 → ∃ Pv : Nat → L2.St → Hp → Prop, Pv 0 σ H1 ∧ (∀ j σ' H', Pv j σ' H' → ExtN H1 H') ∧
    (∀ j d x σ' H', ds[j]? = some d → Dp K H' x d → Pv j σ' H' → g x σ' H' fun σ2 H2 => tu { D with nx := Pv (j + 1), ct := Pv (j + 1), bk := D.nx } σ2 H2) ∧ ∀ σ' H', Pv ds.length σ' H' → D.nx σ' H') : tFor (iList K te) g tu D σ H := by
  refine h H (Ex.refl H) _ fun v H1 e hv => ?_
  cases hv with
  | lst hq hl =>
    obtain ⟨Pv, p0, px, ps, pe⟩ := k H1 e
    refine ⟨_, rfl, ⟨_, hq⟩, for_list Pv p0 (fun j σ' H' _ p => seq_extN (px j σ' H' p) hq) (fun j x σ' H' hj p => ?_) fun σ' H' p => pe σ' H' (by rw [← dpAll_len hl]; exact p)⟩
    have hj2 : j < ds.length := by rw [← dpAll_len hl]; exact (List.getElem?_eq_some_iff.mp hj).1
    have hd2 : ds[j]? = some ds[j] := List.getElem?_eq_getElem hj2
    exact ps j _ x σ' H' hd2 (dp_extN (px j σ' H' p) (dpAll_get hl hj hd2)) p
theorem q_forE {D : Ends} {tz : TS} {te : TE} {tu : TS} {g : TG} {ds : List PyData} (h : EvD K te σ H (.list ds)) (k : ∀ H1, Ex H H1 → ∃ Pv : Nat → L2.St → Hp → Prop, Pv 0 σ H1 ∧ (∀ j σ' H', Pv j σ' H' → ExtN H1 H') ∧
    (∀ j d x σ' H', ds[j]? = some d → Dp K H' x d → Pv j σ' H' → g x σ' H' fun σ2 H2 => tu { D with nx := Pv (j + 1), ct := Pv (j + 1), bk := tz D } σ2 H2) ∧ ∀ σ' H', Pv ds.length σ' H' → tz D σ' H') : tSeq (tFor (iList K te) g tu) tz D σ H := s_forE (D := { D with nx := tz D }) h k
end
section
variable {P : Program} {w : World} {K : PySem.W.Frag} {mg : Str → Option Value} {base : Heap} {Ts : List NTab}
theorem sc_lbehind : FnScope ["text", "deed"] ["text", "deed"] (defScope sLBehind) := ⟨rfl, rfl, rfl, by decide +kernel, rfl, by decide +kernel, by decide +kernel⟩
theorem c_lbehind (D : Df K mg "_law_behind" sLBehind) (hb : Bl mg) : Cl P w K mg base 1 "_law_behind" (spTextBehind K) [] := by
  refine cl_of D sc_lbehind (len_sp fun ds ⟨z, p, k, h, _⟩ => by rw [h]; rfl) (fun _ _ _ _ _ _ us hl => match us, hl with | [_, _], _ => rfl) fun f cdv A outer s H vs Q E hr h => ?_
  obtain ⟨ds, hd, ⟨z, p, k, rfl, hz, hk1, hk2⟩, q⟩ := h
  obtain ⟨v, v2, rfl, h0, h1⟩ := dp2 hd
  refine ⟨_, pss_one (ps_ret (pe_op op_add_str (pe_op op_add_str (pe_slice sl_str (pv 0) po_none (po_some (pe_ix ix_tup (pv 1) pe_int (fun _ _ => rfl)))) (pe_ix ix_tup (pv 1) pe_int (fun _ _ => rfl))) (pe_slice sl_str (pv 0) (po_some (pe_op op_add (pe_ix ix_tup (pv 1) pe_int (fun _ _ => rfl)) (pe_lenS hb (pe_ix ix_tup (pv 1) pe_int (fun _ _ => rfl))))) po_none))), ?_⟩
  have c0 : At K (start ["text", "deed"] [v, v2]) H 0 (.str z) := ⟨_, rfl, h0⟩
  have c1 : At K (start ["text", "deed"] [v, v2]) H 1 (.tuple [.int (p : Int), .str k.1, .str k.2]) := ⟨_, rfl, h1⟩
  have i0 := d_ixT (i := 0) (d_var c1) (d_int (i := 0)) rfl
  have i1 := d_ixT (i := 1) (d_var c1) (d_int (i := 1)) rfl
  have i2 := d_ixT (i := 2) (d_var c1) (d_int (i := 2)) rfl
  have l1 := cut_len z none (some (p : Int))
  have l2 := cut_len z (some ((p + k.1.length : Nat) : Int)) none
  exact AsKit.s_ret (K := K) (d_addS (x := cutS z none (some (p : Int)) ++ k.2) (y := cutS z (some ((p + k.1.length : Nat) : Int)) none) (d_addS (d_slS (d_var c0) p_none (p_some i0) (by omega)) i2 (by omega))
    (d_slS (d_var c0) (p_some (d_eqTo (d_arI (g := fun i j => i + j) i0 (d_lenS i1 (by omega))) (by rw [Int.natCast_add]))) p_none (by omega)) (by rw [add_len]; omega)) q
/-- a row of deeds leads a text to another -/
def Leads (ks : List (Str × Str)) : Str → List (Nat × (Str × Str)) → Str → Prop
  | z, [], z2 => z = z2
  | z, (p, k) :: r, z2 => dD p k ∈ deedsL ks z ∧ z.length ≤ 400 ∧ Leads ks (bhS z p k) r z2
abbrev nLeads : List Str := ["kinds", "text", "told", "other", "deed"]
theorem sc_leads : FnScope nLeads ["kinds", "text", "told", "other"] (defScope sLeads) := ⟨rfl, rfl, rfl, by decide +kernel, rfl, by decide +kernel, by decide +kernel⟩
def spLeads (K : PySem.W.Frag) (Ts : List NTab) : Sp := fun vs H Q _ => ∃ (vk vt : V) (ks : List (Str × Str)) (rs : List (Nat × (Str × Str))) (z z2 : Str), vs = [vk, .str z, vt, .str z2] ∧ Dp K H vk (.tuple (ks.map kD)) ∧ Dp K H vt (.list (rowDd rs)) ∧ ks.length ≤ 60 ∧ (∀ k ∈ ks, k.1.length ≤ 40 ∧ k.2.length ≤ 40 ∧ PyData.strOk k.1 = true ∧ PyData.strOk k.2 = true) ∧ Leads ks z rs z2 ∧ TabsN Ts H ∧
  ∀ H', ExtN H H' → TabsN Ts H' → Q (.bl true) H'
theorem c_leads (D : Df K mg "_law_leads" sLeads) (C1 : Cl P w K mg base 5 "_law_deeds" (spDeedsL K Ts) []) (C2 : Cl P w K mg base 1 "_law_behind" (spTextBehind K) []) : Cl P w K mg base 6 "_law_leads" (spLeads K Ts) [] := by
  refine cl_of D sc_leads (fun vs H Q E ⟨vk, vt, ks, rs, z, z2, h, _⟩ => by rw [h]; rfl) (fun _ _ _ _ _ _ us hl => match us, hl with | [_, _, _, _], _ => rfl) fun f cdv A outer s H vs Q E hr h => ?_
  obtain ⟨vk, vt, ks, rs, z, z2, rfl, hk, ht, kl, kg, hL, hT, q⟩ := h
  have hu : (A.deeper (envOfC "_law_leads" (defScope sLeads) s.heap.objs.size f cdv)).units + 65 < cLine := by have := hr.un; omega
  refine ⟨_, pss_cons (ps_for PassesOwn.never rfl (pi_list (pv 2)) (pg_name (i := 4) sc_leads.nd rfl (.inl rfl))
      (pss_cons (ps_if (pt_cmpR (op_notInD hu) (pv 4) (C8.pe_c C1 hr (by decide) (by rfl) (pa_cons (pv 0) (pa_cons (pv 1) pa_nil))) rfl) (pss_one (ps_ret pe_bl)) pss_nil)
      (pss_one (ps_set (i := 1) sc_leads.nd rfl (.inl rfl) (C8.pe_c C2 hr (by decide) (by rfl) (pa_cons (pv 1) (pa_cons (pv 4) pa_nil)))))))
    (pss_one (ps_ret (pe_cmpR op_eq (pv 1) (pv 3) (nomark _)))), ?_⟩
  refine q_forE (K := K) (ds := rowDd rs) (d_var (i := 2) ⟨vt, rfl, ht⟩) fun H1 e1 => ⟨fun j σ' H' => ∃ now x4, σ' = [some vk, some (.str now), some vt, some (.str z2), x4] ∧ Leads ks now (rs.drop j) z2 ∧ ExtN H1 H' ∧ TabsN Ts H', ⟨z, none, rfl, hL, ExtN.refl H1, hT.ext e1⟩, (fun j σ' H' ⟨_, _, _, _, e, _⟩ => e), fun j d x σ' H' hj hx p => ?_, fun σ' H' p => ?_⟩
  · obtain ⟨now, x4, rfl, hl, eN, tN⟩ := p
    unfold rowDd at hj
    rw [List.getElem?_map] at hj
    obtain ⟨⟨p, k⟩, hr1, rfl⟩ := Option.map_eq_some_iff.mp hj
    have hlt := (List.getElem?_eq_some_iff.mp hr1).1
    have hdrop : rs.drop j = (p, k) :: rs.drop (j + 1) := by
      rw [List.drop_eq_getElem_cons hlt]
      rw [List.getElem?_eq_getElem hlt] at hr1
      rw [Option.some.inj hr1]
    rw [hdrop] at hl
    obtain ⟨l1, l2, l3⟩ := hl
    obtain ⟨p', k', hk1, _, e2⟩ := deeds_m2 l1
    obtain ⟨rfl, rfl⟩ := dD_inj e2
    obtain ⟨g1, g2, g3, g4⟩ := kg k hk1
    have sh : SeqAt.shaped (dD p k) = true := by
      unfold SeqAt.shaped
      simp [dD, PyData.canLay0, PyData.canLayAll0, PyData.depth, PyData.depthAll, g3, g4]
    have dsh : ∀ x ∈ deedsL ks now, ∃ q kk, x = dD q kk ∧ PyData.strOk kk.1 = true ∧ PyData.strOk kk.2 = true := fun x hx => by
      obtain ⟨q, kk, hk, _, rfl⟩ := deeds_m2 hx
      obtain ⟨_, _, g3, g4⟩ := kg kk hk
      exact ⟨q, kk, rfl, g3, g4⟩
    have hk' := dp_extN eN (dp_ex e1 hk)
    refine ⟨x, rfl, vk, rfl, .str now, rfl, vk, ks, now, rfl, hk', l2, kl, (fun m hm => ⟨(kg m hm).1, (kg m hm).2.1⟩), tN, fun l acc G eG tG hlst hacc => ?_⟩
    have hxG := dp_extN eG hx
    refine ⟨_, _, hxG, .lst (Evl.sq_of hlst) hacc, sh, shaped_deeds dsh, false, ?_, iteF' ?_⟩
    · have ha : (deedsL ks now).any (fun z => PyData.eqv z (dD p k)) = true := List.any_eq_true.mpr ⟨_, l1, SeqAt.eqv_refl _ (SeqAt.canLay_of_shaped sh)⟩
      show V.bl (!(deedsL ks now).any fun z => PyData.eqv z (dD p k)) = V.bl false
      rw [ha]
      rfl
    refine AsKit.s_asg (K := K) (d := .str (bhS now p k)) (d_call (pre := fun ds => ∃ z p k, ds = [.str z, dD p k] ∧ z.length ≤ 40000 ∧ k.1.length ≤ 40 ∧ k.2.length ≤ 40) (g := two bh2) (ds := [.str now, dD p k]) (ds_cons (d_var (i := 1) ⟨.str now, rfl, .str now⟩) (ds_cons (d_var (i := 4) ⟨x, rfl, hxG⟩) ds_nil)) ⟨now, p, k, rfl, by omega, g1, g2⟩) fun u G2 e2 hu2 => ?_
    cases hu2
    exact ⟨_, _, rfl, l3, (eN.trans eG).trans (ExtN.of e2), tG.ext e2⟩
  · obtain ⟨now, x4, rfl, hl, eN, tN⟩ := p
    have hlen : (rowDd rs).length = rs.length := List.length_map ..
    rw [hlen, List.drop_length] at hl
    have hl : now = z2 := hl
    subst hl
    refine AsKit.s_ret (K := K) (d_eqS (d_var (i := 1) ⟨_, rfl, .str now⟩) (d_var (i := 3) ⟨_, rfl, .str now⟩)) fun u G e hu2 => ?_
    rw [decide_eq_true rfl] at hu2
    cases hu2
    exact q G (((ExtN.of e1).trans eN).trans (ExtN.of e)) (tN.ext e)
end
end K27

set_option maxHeartbeats 4000000
set_option autoImplicit false
/-! a story's lines, read again. -/
namespace K27
open PySem PySem.Spec PyProof.Rows L2 AsSort AsKit AsToo AsObj
open Evl (Ex Ev EvT EvA)
theorem nl_tl : TL.tl ("\n" : Str) = [10] := by decide +kernel
theorem joinE_nl : ∀ ls : List (List Nat), TL.joinL [] (ls.map (· ++ [10])) = TL.joinL [10] (ls ++ [[]])
  | [] => rfl
  | [p] => by
    show p ++ [10] = p ++ ([10] ++ [])
    rw [List.append_nil]
  | p :: q :: r => by
    show (p ++ [10]) ++ ([] ++ TL.joinL [] ((q :: r).map (· ++ [10]))) = p ++ ([10] ++ TL.joinL [10] ((q :: r) ++ [[]]))
    rw [joinE_nl (q :: r), List.nil_append, List.append_assoc]
theorem story_split {d : Dk} (h : ∀ z ∈ storyL d, (10 : Nat) ∉ TL.tl z) : Txt.split (storyS d) "\n" = storyL d ++ [("" : Str)] := by
  have e : storyS d = Txt.join "\n" (storyL d ++ [("" : Str)]) := by
    refine TL.ext_tl ?_
    unfold storyS Txt.join
    rw [StrLaws.glued_eq_join, StrLaws.glued_eq_join, TL.tl_join, TL.tl_join, nl_tl, List.map_map, List.map_append]
    have e1 : (TL.tl ∘ fun z => js [z, "\n"] Str.empty) = fun z => TL.tl z ++ [10] := funext fun z => by
      show TL.tl (js [z, "\n"] Str.empty) = _
      rw [js_two, TL.tl_append, TL.tl_append, nl_tl]
      rfl
    rw [e1]
    have := joinE_nl ((storyL d).map TL.tl)
    rw [List.map_map] at this
    exact this
  rw [e]
  refine TL.split_join (y := "\n") (s := 10) (S := []) nl_tl (by decide +kernel) (by simp) fun p hp => ?_
  rcases List.mem_append.mp hp with hp | hp
  · exact h p hp
  · rw [List.mem_singleton.mp hp]
    exact fun z => nomatch z
/-- signs that neither break a line nor part words -/
def plain (z : Str) : Prop := (10 : Nat) ∉ TL.tl z ∧ (32 : Nat) ∉ TL.tl z
theorem plain_in {y z : Str} (hy : isLetS y = true) (hz : allIn y z = true) : plain z := by
  have g : ∀ c ∈ TL.tl z, 97 ≤ c := fun c hc => by
    unfold allIn at hz
    exact (let_sm hy c (of_decide_eq_true (List.all_eq_true.mp hz c hc))).1
  exact ⟨fun h => by have := g _ h; omega, fun h => by have := g _ h; omega⟩
theorem plain_shown {y z : Str} (hy : isLetS y = true) (hz : allIn y z = true) : plain (shown z) := by
  unfold shown
  split
  · exact (by decide +kernel : (10 : Nat) ∉ TL.tl ("_" : Str) ∧ (32 : Nat) ∉ TL.tl ("_" : Str))
  · exact plain_in hy hz
theorem told_shown {y z : Str} (hy : isLetS y = true) (hz : allIn y z = true) : toldT (shown z) = some z := by
  unfold shown
  by_cases h : z = ""
  · rw [if_pos h, h]
    decide +kernel
  · rw [if_neg h]
    unfold toldT
    rw [if_neg h, if_neg]
    intro e
    rw [e] at hz
    unfold allIn at hz
    have := let_sm hy 95 (of_decide_eq_true (List.all_eq_true.mp hz 95 (by decide +kernel)))
    omega
theorem plain_int : ∀ p, p ≤ 40 → plain (intS p) := by
  have h : ∀ p < 41, (10 : Nat) ∉ TL.tl (intS p) ∧ (32 : Nat) ∉ TL.tl (intS p) := by decide +kernel
  exact fun p hp => h p (by omega)
theorem line_split {p : Nat} {k : Str × Str} (hp : plain (intS p)) (h1 : plain (shown k.1)) (h2 : plain (shown k.2)) : Txt.split (deedLine p k) " " = [intS p, shown k.1, ">", shown k.2] := by
  have e : deedLine p k = Txt.join " " [intS p, shown k.1, ">", shown k.2] := by
    refine TL.ext_tl ?_
    unfold Txt.join deedLine
    rw [StrLaws.glued_eq_join, TL.tl_join, sp_tl]
    have eg : TL.tl (" > " : Str) = [32] ++ (TL.tl (">" : Str) ++ [32]) := by decide +kernel
    show TL.tl (Str.empty ++ intS p ++ " " ++ shown k.1 ++ " > " ++ shown k.2) = TL.tl (intS p) ++ ([32] ++ (TL.tl (shown k.1) ++ ([32] ++ (TL.tl (">" : Str) ++ ([32] ++ TL.tl (shown k.2))))))
    simp only [TL.tl_append, sp_tl, eg, List.append_assoc]
    rfl
  rw [e]
  refine TL.split_join (y := " ") (s := 32) (S := []) sp_tl (by decide +kernel) (by simp) fun u hu => ?_
  simp only [List.mem_cons, List.not_mem_nil, or_false] at hu
  rcases hu with rfl | rfl | rfl | rfl
  · exact hp.2
  · exact h1.2
  · exact (by decide +kernel : (32 : Nat) ∉ TL.tl (">" : Str))
  · exact h2.2
/-- a deed that the desk's text allows -/
def Fit (y t : Str) (p : Nat) (k : Str × Str) : Prop := kindS y k = true ∧ hitB t p k = true ∧ p ≤ t.length ∧ (bhS t p k).length ≤ 40
theorem told_line {y t : Str} {p : Nat} {k : Str × Str} (hy : isLetS y = true) (ht : t.length ≤ 40) (f : Fit y t p k) : toldD y t (Txt.split (deedLine p k) " ") = some (p, k) := by
  obtain ⟨f1, f2, f3, f4⟩ := f
  obtain ⟨_, _, k3, k4, _⟩ := kindS_in f1
  rw [line_split (plain_int p (by omega)) (plain_shown hy k3) (plain_shown hy k4)]
  unfold toldD
  dsimp only
  rw [if_pos rfl, lookP_is ht (by omega), if_pos f3, told_shown hy k3, told_shown hy k4]
  dsimp only
  rw [if_pos]
  show (kindS y k && (hitB t p k && decide ((bhS t p k).length ≤ 40))) = true
  rw [f1, f2, decide_eq_true f4]
  rfl
end K27

set_option maxHeartbeats 4000000
set_option autoImplicit false
/-! a desk's story, read again: the same desk but for its steps. -/
namespace K27
open PySem PySem.Spec PyProof.Rows L2 AsSort AsKit AsToo AsObj
open Evl (Ex Ev EvT EvA)
/-- a row of deeds that the desk allows, from a text to another -/
def FitP (y : Str) : Str → List (Nat × (Str × Str)) → Str → Prop
  | t, [], t2 => t = t2
  | t, (p, k) :: r, t2 => Fit y t p k ∧ FitP y (bhS t p k) r t2
theorem add_now (d : Dk) (x : Nat × (Str × Str)) (b : Str) : d.add [x] b = { d with now := b, steps := d.steps ++ [([x], d.now)] } := by
  unfold Dk.add
  rw [if_neg (by simp)]
theorem go_path {y t2 : Str} (hy : isLetS y = true) : ∀ (rs : List (Nat × (Str × Str))) (d : Dk) (n : Nat), FitP y d.now rs t2 → d.now.length ≤ 40 → ∃ d2, goP y d (rs.map fun x => deedLine x.1 x.2) n = .inr d2 ∧ d2.y = d.y ∧ d2.first = d.first ∧ d2.now = t2 ∧ d2.row = d.row ++ rs
  | [], d, n, h, _ => ⟨d, rfl, rfl, rfl, h, (List.append_nil _).symm⟩
  | (p, k) :: r, d, n, h, hl => by
    obtain ⟨f, h⟩ := h
    have e := told_line hy hl f
    have en : (d.add [(p, k)] (bhS d.now p k)).now = bhS d.now p k := by rw [add_now]
    obtain ⟨d2, g1, g2, g3, g4, g5⟩ := go_path hy r (d.add [(p, k)] (bhS d.now p k)) (n + 1) (by rw [en]; exact h) (by rw [en]; exact f.2.2.2)
    refine ⟨d2, ?_, ?_, ?_, g4, ?_⟩
    · show (match toldD y d.now (Txt.split (deedLine p k) " ") with
        | none => Sum.inl n
        | some (p, k) => goP y (d.add [(p, k)] (bhS d.now p k)) (r.map fun (x : Nat × (Str × Str)) => deedLine x.1 x.2) (n + 1)) = .inr d2
      rw [e]
      exact g1
    · rw [g2, add_now]
    · rw [g3, add_now]
    · rw [g5, add_now]
      unfold Dk.row
      show (d.steps ++ [([(p, k)], d.now)]).flatMap (·.1) ++ r = d.steps.flatMap (·.1) ++ (p, k) :: r
      rw [List.flatMap_append, List.append_assoc]
      rfl
theorem fit_plain {y : Str} (hy : isLetS y = true) {t2 : Str} : ∀ (rs : List (Nat × (Str × Str))) (t : Str), FitP y t rs t2 → t.length ≤ 40 → ∀ x ∈ rs, (10 : Nat) ∉ TL.tl (deedLine x.1 x.2)
  | [], _, _, _, x, hx => nomatch hx
  | (p, k) :: r, t, ⟨f, h⟩, hl, x, hx => by
    rcases List.mem_cons.mp hx with rfl | hx
    · obtain ⟨f1, f2, f3, f4⟩ := f
      obtain ⟨_, _, k3, k4, _⟩ := kindS_in f1
      have e1 := (plain_int p (by omega)).1
      have e2 := (plain_shown hy k3).1
      have e3 := (plain_shown hy k4).1
      have e4 : (10 : Nat) ∉ TL.tl (" > " : Str) := by decide +kernel
      show (10 : Nat) ∉ TL.tl (Str.empty ++ intS p ++ " " ++ shown k.1 ++ " > " ++ shown k.2)
      simp only [TL.tl_append, sp_tl, List.mem_append, not_or]
      exact ⟨⟨⟨⟨⟨(fun z => nomatch z), e1⟩, (by decide)⟩, e2⟩, e4⟩, e3⟩
    · exact fit_plain hy r _ h f.2.2.2 x hx
theorem hd_line (y : Str) : js ["letters ", y] Str.empty = "letters" ++ " " ++ y := by
  refine TL.ext_tl ?_
  rw [js_two, TL.tl_append, TL.tl_append, TL.tl_append, TL.tl_append]
  have e : TL.tl Str.empty ++ TL.tl ("letters " : Str) = TL.tl ("letters" : Str) ++ TL.tl (" " : Str) := by decide +kernel
  rw [e]
theorem tx_line (z : Str) : js ["text ", z] Str.empty = "text" ++ " " ++ z := by
  refine TL.ext_tl ?_
  rw [js_two, TL.tl_append, TL.tl_append, TL.tl_append, TL.tl_append]
  have e : TL.tl Str.empty ++ TL.tl ("text " : Str) = TL.tl ("text" : Str) ++ TL.tl (" " : Str) := by decide +kernel
  rw [e]
/-- a desk's story, read -/
theorem story_desk {d : Dk} (hy : isLetS d.y = true) (h1 : allIn d.y d.first = true) (h2 : d.first.length ≤ 40) (h3 : FitP d.y d.first d.row d.now) : ∃ d2, deskP (storyS d) = .inr d2 ∧ d2.y = d.y ∧ d2.first = d.first ∧ d2.now = d.now ∧ d2.row = d.row := by
  have w1 : wb "letters" (js ["letters ", d.y] Str.empty) = d.y := by rw [hd_line]; exact wb_tl _ _
  have w2 : wb "text" (js ["text ", shown d.first] Str.empty) = shown d.first := by rw [tx_line]; exact wb_tl _ _
  have hnl : ∀ z ∈ storyL d, (10 : Nat) ∉ TL.tl z := fun z hz => by
    unfold storyL at hz
    rcases List.mem_append.mp hz with hz | hz
    · simp only [List.mem_cons, List.not_mem_nil, or_false] at hz
      rcases hz with rfl | rfl
      · rw [hd_line, TL.tl_append, TL.tl_append]
        have p1 : plain d.y := by
          have g : ∀ c ∈ TL.tl d.y, 97 ≤ c := fun c hc => (let_sm hy c hc).1
          exact ⟨fun h => by have := g _ h; omega, fun h => by have := g _ h; omega⟩
        have p2 : (10 : Nat) ∉ TL.tl ("letters" : Str) ++ TL.tl (" " : Str) := by decide +kernel
        exact fun hm => (List.mem_append.mp hm).elim p2 p1.1
      · rw [tx_line, TL.tl_append, TL.tl_append]
        have p2 : (10 : Nat) ∉ TL.tl ("text" : Str) ++ TL.tl (" " : Str) := by decide +kernel
        exact fun hm => (List.mem_append.mp hm).elim p2 (plain_shown hy h1).1
    · obtain ⟨x, hx, rfl⟩ := List.mem_map.mp hz
      exact fit_plain hy d.row d.first h3 h2 x hx
  have hs := story_split hnl
  obtain ⟨d2, g1, g2, g3, g4, g5⟩ := go_path hy d.row ⟨d.y, d.first, d.first, []⟩ 2 h3 h2
  refine ⟨d2, ?_, g2, g3, g4, g5⟩
  unfold deskP
  rw [hs]
  have eD : (storyL d ++ [("" : Str)]).dropLast = storyL d := by simp
  have eR : (storyL d ++ [("" : Str)]).getLastD "" = "" := by simp
  rw [eD, eR]
  have eb : begunL (storyL d) = .inr (d.y, d.first) := by
    show begunL (js ["letters ", d.y] Str.empty :: js ["text ", shown d.first] Str.empty :: d.row.map fun x => deedLine x.1 x.2) = _
    rw [begun_cons, w1, if_pos hy]
    dsimp only
    rw [w2, told_shown hy h1]
    dsimp only
    rw [if_pos]
    unfold withinS
    rw [h1, decide_eq_true (by omega : (d.first.length : Int) ≤ 40)]
    rfl
  rw [eb]
  dsimp only
  have ed : (storyL d).drop 2 = d.row.map fun x => deedLine x.1 x.2 := rfl
  rw [ed, g1]
  dsimp only
  rw [if_pos rfl]
end K27

set_option maxHeartbeats 4000000
set_option autoImplicit false
/-! the desk's steps, one behind another; the law's own story. -/
namespace K27
open PySem PySem.Spec PyProof.Rows L2 AsSort AsKit AsToo AsObj
open Evl (Ex Ev EvT EvA)
theorem kindS_gd {y : Str} {k : Str × Str} (h : Gd y k) : kindS y k = true := by
  obtain ⟨h1, h2, h3, h4, h5⟩ := h
  unfold kindS withinS
  rw [h3, h4, decide_eq_true (by omega : (k.1.length : Int) ≤ 3), decide_eq_true (by omega : (k.2.length : Int) ≤ 1), decide_eq_false h5]
  rfl
theorem fit_app {y t1 t2 : Str} : ∀ {r1 r2 : List (Nat × (Str × Str))} {t : Str}, FitP y t r1 t1 → FitP y t1 r2 t2 → FitP y t (r1 ++ r2) t2
  | [], _, _, h, h2 => by
    have h : _ = t1 := h
    subst h
    exact h2
  | (_, _) :: _, _, _, h, h2 => ⟨h.1, fit_app h.2 h2⟩
theorem fit_all {y t2 : Str} : ∀ {rs : List (Nat × (Str × Str))} {t : Str}, FitP y t rs t2 → t.length ≤ 40 → ∀ x ∈ rs, kindS y x.2 = true ∧ x.1 ≤ 40
  | [], _, _, _, _, hx => nomatch hx
  | (p, k) :: r, t, h, hl, x, hx => by
    rcases List.mem_cons.mp hx with rfl | hx
    · exact ⟨h.1.1, by have := h.1.2.2.1; show p ≤ 40; omega⟩
    · exact fit_all h.2 h.1.2.2.2 x hx
theorem fit_in {y t2 : Str} : ∀ {rs : List (Nat × (Str × Str))} {t : Str}, FitP y t rs t2 → allIn y t = true → t.length ≤ 40 → allIn y t2 = true ∧ t2.length ≤ 40
  | [], _, h, hi, hl => by
    have h : _ = t2 := h
    subst h
    exact ⟨hi, hl⟩
  | (p, k) :: r, t, h, hi, hl => by
    obtain ⟨_, _, _, k4, _⟩ := kindS_in h.1.1
    exact fit_in h.2 (bh_in2 hi k4) h.1.2.2.2
theorem fit_leads {y t2 : Str} {ks : List (Str × Str)} : ∀ {rs : List (Nat × (Str × Str))} {t : Str}, FitP y t rs t2 → t.length ≤ 40 → (∀ x ∈ rs, x.2 ∈ ks) → Leads ks t rs t2
  | [], _, h, _, _ => h
  | (p, k) :: r, t, h, hl, hk => by
    refine ⟨?_, by omega, fit_leads h.2 h.1.2.2.2 fun x hx => hk x (List.mem_cons_of_mem _ hx)⟩
    have h3 := h.1.2.2.1
    unfold deedsL hitsTo
    refine List.mem_flatMap.mpr ⟨p, List.mem_range.mpr (by omega), ?_⟩
    unfold hits
    refine List.mem_map.mpr ⟨k, List.mem_filter.mpr ⟨?_, h.1.2.1⟩, rfl⟩
    unfold sortO
    exact List.mem_mergeSort.mpr (hk (p, k) (List.mem_cons_self ..))
/-- a mender's deeds -/
theorem fit_mend {y : Str} {ps : List (Str × Str)} (hm : Men y ps) : ∀ (n : Nat) (z : Str), z.length ≤ 40 → FitP y z (mendN ps n z).1 (mendN ps n z).2 ∧ (mendN ps n z).1.length + (mendN ps n z).2.length ≤ z.length
  | 0, z, _ => ⟨rfl, by show 0 + z.length ≤ _; omega⟩
  | n + 1, z, hz => by
    cases h : nextK ps z with
    | none => rw [mend_none h]; exact ⟨rfl, by show 0 + z.length ≤ _; omega⟩
    | some q =>
      obtain ⟨p, k⟩ := q
      rw [mend_some h]
      obtain ⟨h1, h2, h3, _⟩ := next_fit h
      have hl := next_less hm h
      have ih := fit_mend hm n (bhS z p k) (by omega)
      refine ⟨⟨⟨kindS_gd (hm k h2).1, h3, by omega, by omega⟩, ih.1⟩, ?_⟩
      have := ih.2
      show (mendN ps n (bhS z p k)).1.length + 1 + (mendN ps n (bhS z p k)).2.length ≤ _
      omega
/-- the steps that a desk keeps, from its first text -/
inductive Chn (y z0 : Str) : List (List (Nat × (Str × Str)) × Str) → Str → Prop
  | nil : Chn y z0 [] z0
  | snoc {ss : List (List (Nat × (Str × Str)) × Str)} {t t2 : Str} {row : List (Nat × (Str × Str))} : Chn y z0 ss t → row ≠ [] → FitP y t row t2 → row.length + t2.length ≤ t.length + 2 → Chn y z0 (ss ++ [(row, t)]) t2
theorem Chn.back {y z0 now : Str} {ss : List (List (Nat × (Str × Str)) × Str)} {s : List (Nat × (Str × Str)) × Str} (h : Chn y z0 (ss ++ [s]) now) : Chn y z0 ss s.2 := by
  generalize e : ss ++ [s] = l at h
  cases h with
  | nil => exact absurd (congrArg List.length e) (by simp)
  | snoc h1 h2 h3 h4 =>
    have z := List.append_inj' e rfl
    have e2 := List.cons.inj z.2
    rw [z.1, e2.1]
    exact h1
theorem Chn.fit {y z0 now : Str} {ss : List (List (Nat × (Str × Str)) × Str)} (h : Chn y z0 ss now) : FitP y z0 (ss.flatMap (·.1)) now ∧ (ss.flatMap (·.1)).length + now.length ≤ z0.length + 2 * ss.length := by
  induction h with
  | nil => exact ⟨rfl, by show 0 + z0.length ≤ _; omega⟩
  | snoc h1 h2 h3 h4 ih =>
    rename_i ss t t2 row
    rw [List.flatMap_append]
    have e : ([(row, t)] : List (List (Nat × (Str × Str)) × Str)).flatMap (·.1) = row := by simp
    rw [e]
    refine ⟨fit_app ih.1 h3, ?_⟩
    have := ih.2
    rw [List.length_append, List.length_append]
    show _ ≤ z0.length + 2 * (ss.length + 1)
    omega
theorem Chn.empty {y z0 now : Str} {ss : List (List (Nat × (Str × Str)) × Str)} (h : Chn y z0 ss now) (e : ss = []) : now = z0 := by
  cases h with
  | nil => rfl
  | snoc => exact absurd (congrArg List.length e) (by simp)
/-- the law's story -/
def st0 (y first : Str) : Str := ("letters " : Str) ++ y ++ "\ntext " ++ shown first ++ "\n"
def stN (acc : Str) (x : Nat × (Str × Str)) : Str := acc ++ intS x.1 ++ " " ++ shown x.2.1 ++ " > " ++ shown x.2.2 ++ "\n"
theorem joinE_cons (p : List Nat) : ∀ r : List (List Nat), TL.joinL [] (p :: r) = p ++ TL.joinL [] r
  | [] => (List.append_nil p).symm
  | _ :: _ => rfl
theorem joinE_app (r : List (List Nat)) : ∀ l : List (List Nat), TL.joinL [] (l ++ r) = TL.joinL [] l ++ TL.joinL [] r
  | [] => rfl
  | p :: l => by
    rw [List.cons_append, joinE_cons, joinE_cons, joinE_app r l, List.append_assoc]
theorem tl_joinE (parts : List Str) : TL.tl (Txt.join "" parts) = TL.joinL [] (parts.map TL.tl) := by
  unfold Txt.join
  rw [StrLaws.glued_eq_join, TL.tl_join]
  rfl
theorem tl_stN (acc : Str) (x : Nat × (Str × Str)) : TL.tl (stN acc x) = TL.tl acc ++ TL.tl (js [deedLine x.1 x.2, "\n"] Str.empty) := by
  rw [js_two]
  unfold stN deedLine
  show TL.tl (acc ++ intS x.1 ++ " " ++ shown x.2.1 ++ " > " ++ shown x.2.2 ++ "\n") = TL.tl acc ++ TL.tl (Str.empty ++ (Str.empty ++ intS x.1 ++ " " ++ shown x.2.1 ++ " > " ++ shown x.2.2) ++ "\n")
  simp only [TL.tl_append, List.append_assoc]
  rfl
theorem tl_fold : ∀ (rs : List (Nat × (Str × Str))) (acc : Str), TL.tl (rs.foldl stN acc) = TL.tl acc ++ TL.joinL [] ((rs.map fun x => js [deedLine x.1 x.2, "\n"] Str.empty).map TL.tl)
  | [], acc => (List.append_nil _).symm
  | x :: rs, acc => by
    rw [List.foldl_cons, tl_fold rs, tl_stN, List.map_cons, List.map_cons, joinE_cons, List.append_assoc]
theorem story_own (d : Dk) : d.row.foldl stN (st0 d.y d.first) = storyS d := by
  refine TL.ext_tl ?_
  rw [tl_fold]
  unfold storyS storyL
  rw [tl_joinE, List.map_append, List.map_append, joinE_app, List.map_map, List.map_map, List.map_map]
  have h : TL.tl (st0 d.y d.first) = TL.joinL [] [TL.tl (js [js ["letters ", d.y] Str.empty, "\n"] Str.empty), TL.tl (js [js ["text ", shown d.first] Str.empty, "\n"] Str.empty)] := by
    rw [joinE_cons, joinE_cons]
    unfold st0
    rw [js_two, js_two, js_two, js_two]
    have e : TL.tl ("\ntext " : Str) = TL.tl ("\n" : Str) ++ TL.tl ("text " : Str) := by decide +kernel
    simp only [TL.tl_append, e, List.append_assoc]
    rfl
  rw [h]
  simp only [List.map_map]
  rfl
end K27

set_option maxHeartbeats 4000000
set_option autoImplicit false
/-! what stays: the row, the tables, the desk, the law's own past. -/
namespace K27
open PySem PySem.Spec PyProof.Rows L2 AsSort AsKit AsToo AsObj
open Evl (Ex Ev EvT EvA)
open LamX (ExtN TabB)
open NdefX (TabsN NTab)
section
theorem tabs_keep {T : List NTab} {H H' : Hp} (t : TabsN T H) (h1 : ∀ b ps, H b = some (.tbl ps) → H' b = some (.tbl ps)) (h2 : ∀ b c q, H b = some (LamX.CodeO c q) → H' b = some (LamX.CodeO c q)) : TabsN T H' := fun p hp => by
  obtain ⟨ps, t1, t2, t3⟩ := t p hp
  refine ⟨ps, h1 _ _ t1, t2, fun pos cv hc => ?_⟩
  obtain ⟨c, e1, e2⟩ := t3 pos cv hc
  exact ⟨c, e1, h2 _ _ _ e2⟩
end
section
variable {K : PySem.W.Frag} {C : Addr} {H H' : Hp} {a ps p : Addr} {d : Dk} {S : Addr × List Int} {Ts : List NTab}
theorem row_extN {r : Addr} (e : ExtN H H') (h : Row K S H r) : Row K S H' r := by
  obtain ⟨a, b, c, h1, h2, h3, h4⟩ := h
  refine ⟨a, b, c, e _ _ h1 (fun ps z => by cases z), h2, fun G bt => ?_, h4⟩
  have z := h3 (upd H r (.tup [])) bt_upd
  have go : ∀ o, upd H r (.tup []) S.1 = some o → (∀ xs, o ≠ .tup xs) → (∀ ps, o ≠ .tbl ps) → G S.1 = some o := fun o q n1 n2 => by
    have ne : S.1 ≠ r := fun y => by
      rw [y, upd_same] at q
      exact n1 _ (Option.some.inj q).symm
    rw [upd_ne ne] at q
    exact bt _ _ ne (e _ _ q n2)
  rcases z with (z | ⟨o, z⟩) | z
  · exact .inl (.inl (go _ z (fun xs y => by cases y) fun ps y => by cases y))
  · exact .inl (.inr ⟨o, go _ z (fun xs y => by cases y) fun ps y => by cases y⟩)
  · exact .inr z
theorem tabs_bt {r : Addr} (h : Row K S H r) (b : Bt r H H') (t : TabsN Ts H) : TabsN Ts H' := fun p hp => by
  obtain ⟨a, x, y, h1, _⟩ := h
  obtain ⟨ps, t1, t2, t3⟩ := t p hp
  refine ⟨ps, b _ _ (fun z => by rw [z, h1] at t1; cases t1) t1, t2, fun pos cv hc => ?_⟩
  obtain ⟨c, e1, e2⟩ := t3 pos cv hc
  refine ⟨c, e1, b _ _ (fun z => ?_) e2⟩
  rw [z, h1] at e2
  have e3 := Option.some.inj e2
  unfold LamX.CodeO at e3
  cases e3
theorem DkAt.bt (h : DkAt K C H a ps d) (hR : Row K S H p) (b : Bt p H H') (n1 : a ≠ p) (n2 : ps ≠ p) : DkAt K C H' a ps d := let ⟨dx, vs, h1, h2, h3⟩ := h; ⟨dx, vs, b _ _ n1 h1, b _ _ n2 h2, dpAll_tu (tu_bt hR b) (imm_steps _) h3⟩
/-- x is not where the row lies, nor where the drawn numbers do -/
def Off (K : PySem.W.Frag) (S : Addr × List Int) (p x : Addr) : Prop := x ≠ p ∧ (x ≠ S.1 ∨ ∀ G, SqL K G S.1 (S.2.map V.int))
theorem off_new {x : Addr} (h : Row K S H p) (n : H x = none) : Off K S p x := by
  obtain ⟨a, b, c, h1, _, h3, _⟩ := h
  refine ⟨(fun e => by rw [e, h1] at n; cases n), ?_⟩
  rcases h3 H (bt_ex (Ex.refl H)) with (z | ⟨o, z⟩) | z
  · exact .inl (fun e => by rw [e, z] at n; cases n)
  · exact .inl (fun e => by rw [e, z] at n; cases n)
  · exact .inr fun G => .inr z
theorem row_bd {b pb : Addr} (h : Row K S H p) (x : Bd b pb H H') (o1 : Off K S p b) (o2 : Off K S p pb) : Row K S H' p := by
  obtain ⟨i, j, k, h1, h2, h3, h4⟩ := h
  refine ⟨i, j, k, x _ _ (fun e => o1.1 e.symm) (fun e => o2.1 e.symm) h1, h2, fun G bt => ?_, h4⟩
  rcases o1.2 with n1 | z
  · rcases o2.2 with n2 | z
    · have g : Bt p H (fun y => if y = b ∨ y = pb then H y else G y) := fun y o ny hy => by
        show (if y = b ∨ y = pb then H y else G y) = some o
        by_cases q : y = b ∨ y = pb
        · rw [if_pos q]; exact hy
        · rw [if_neg q]
          exact bt y o ny (x y o (fun e => q (.inl e)) (fun e => q (.inr e)) hy)
      have eS : (fun y => if y = b ∨ y = pb then H y else G y) S.1 = G S.1 := by
        show (if S.1 = b ∨ S.1 = pb then H S.1 else G S.1) = G S.1
        rw [if_neg]
        intro q
        rcases q with q | q
        · exact n1 q.symm
        · exact n2 q.symm
      rcases h3 _ g with (z | ⟨o, z⟩) | z
      · rw [eS] at z; exact .inl (.inl z)
      · rw [eS] at z; exact .inl (.inr ⟨o, z⟩)
      · exact .inr z
    · exact z G
  · exact z G
theorem tabs_bd {b pb : Addr} {e : Dk} (t : TabsN Ts H) (hb : DkAt K C H b pb e) (x : Bd b pb H H') : TabsN Ts H' := by
  obtain ⟨dy, ws, g1, g2, g3⟩ := hb
  refine tabs_keep t (fun y q hy => x _ _ (fun z => ?_) (fun z => ?_) hy) fun y c q hy => x _ _ (fun z => ?_) (fun z => ?_) hy
  · rw [z, g1] at hy; cases hy
  · rw [z, g2] at hy; cases hy
  · rw [z, g1] at hy; have e := Option.some.inj hy; unfold LamX.CodeO at e; cases e
  · rw [z, g2] at hy; have e := Option.some.inj hy; unfold LamX.CodeO at e; cases e
theorem imm_ks (ks : List (Str × Str)) : imm (.tuple (ks.map kD)) = true := immAll_of fun d hd => by
  obtain ⟨q, _, rfl⟩ := List.mem_map.mp hd
  rfl
theorem bd_upd (b pb : Addr) (o : HO) : Bd b pb H (upd H pb o) := fun x u _ n h => (upd_ne n).trans h
theorem bd_upd2 (b : Addr) {q : Addr} (o : HO) : Bd q b H (upd H q o) := fun x u n _ h => (upd_ne n).trans h
/-- a past step, as the law keeps it -/
def PvAt (K : PySem.W.Frag) (bad : Addr → Prop) (H : Hp) (v : V) (s : List (Nat × (Str × Str)) × Str) : Prop := ∃ t l acc, v = .ref t ∧ H t = some (.tup [.ref l, .str s.2]) ∧ H l = some (.lst acc) ∧ ¬ bad l ∧ DpAll K H acc (rowDd s.1)
inductive PvAll (K : PySem.W.Frag) (bad : Addr → Prop) (H : Hp) : List V → List (List (Nat × (Str × Str)) × Str) → Prop
  | nil : PvAll K bad H [] []
  | cons {v : V} {vs : List V} {s : List (Nat × (Str × Str)) × Str} {ss : List (List (Nat × (Str × Str)) × Str)} : PvAt K bad H v s → PvAll K bad H vs ss → PvAll K bad H (v :: vs) (s :: ss)
variable {bad : Addr → Prop} {v : V} {s : List (Nat × (Str × Str)) × Str} {vs : List V} {ss : List (List (Nat × (Str × Str)) × Str)}
theorem PvAll.map (h : PvAll K bad H vs ss) (f : ∀ v s, PvAt K bad H v s → PvAt K bad H' v s) : PvAll K bad H' vs ss := by
  induction h with
  | nil => exact .nil
  | cons a _ ih => exact .cons (f _ _ a) ih
theorem PvAll.len (h : PvAll K bad H vs ss) : vs.length = ss.length := by
  induction h with
  | nil => rfl
  | cons _ _ ih => rw [List.length_cons, List.length_cons, ih]
theorem PvAll.snoc (h : PvAll K bad H vs ss) (a : PvAt K bad H v s) : PvAll K bad H (vs ++ [v]) (ss ++ [s]) := by
  induction h with
  | nil => exact .cons a .nil
  | cons b _ ih => exact .cons b ih
theorem PvAll.get (h : PvAll K bad H vs ss) : ∀ {i : Nat} {v : V}, vs[i]? = some v → ∃ s, ss[i]? = some s ∧ PvAt K bad H v s := by
  induction h with
  | nil => intro i v e; simp at e
  | cons a _ ih =>
    intro i v e
    cases i with
    | zero =>
      have e := Option.some.inj e
      subst e
      exact ⟨_, rfl, a⟩
    | succ i => exact ih (i := i) (by simpa using e)
theorem PvAll.last {n : Nat} (h : PvAll K bad H vs (ss ++ [s])) (hn : vs.length = n + 1) : ∃ ws v, vs = ws ++ [v] ∧ ws.length = n ∧ PvAll K bad H ws ss ∧ PvAt K bad H v s := by
  generalize e : ss ++ [s] = l at h
  induction h generalizing ss n with
  | nil => exact absurd (congrArg List.length e) (by simp)
  | cons a b ih =>
    rename_i v vs s2 ss2
    cases ss with
    | nil =>
      have e := List.cons.inj e
      have e2 : ss2 = [] := e.2.symm
      subst e2
      cases b
      rw [List.nil_append] at *
      refine ⟨[], v, rfl, ?_, .nil, ?_⟩
      · simp at hn ⊢; omega
      · rw [e.1]; exact a
    | cons s3 ss3 =>
      have e := List.cons.inj e
      cases n with
      | zero =>
        have := b.len
        rw [← e.2] at this
        simp at hn this
        subst hn
        simp at this
      | succ n =>
        obtain ⟨ws, u, rfl, h2, h3, h4⟩ := ih (n := n) (by simpa using hn) e.2
        exact ⟨v :: ws, u, rfl, by simp [h2], .cons (e.1 ▸ a) h3, h4⟩
theorem PvAt.extN (h : PvAt K bad H v s) (e : ExtN H H') : PvAt K bad H' v s := let ⟨t, l, acc, h1, h2, h3, h4, h5⟩ := h; ⟨t, l, acc, h1, e _ _ h2 (fun _ z => nomatch z), e _ _ h3 (fun _ z => nomatch z), h4, dpAll_extN e h5⟩
/-- all but what is no tuple and bad stays -/
theorem PvAt.keep (h : PvAt K bad H v s) (tu : Tu K H H') (k1 : ∀ x xs, H x = some (.tup xs) → H' x = some (.tup xs)) (k2 : ∀ x xs, ¬ bad x → H x = some (.lst xs) → H' x = some (.lst xs)) : PvAt K bad H' v s := let ⟨t, l, acc, h1, h2, h3, h4, h5⟩ := h; ⟨t, l, acc, h1, k1 _ _ h2, k2 _ _ h4 h3, h4, dpAll_tu tu (imm_rowD _) h5⟩
/-- a list that is the law's own -/
theorem row_q {q : Addr} {o : HO} (h : Row K S H p) (oq : Off K S p q) : Row K S (upd H q o) p := row_bd h (bd_upd q q o) oq oq
/-- all that stays -/
structure Bq (K : PySem.W.Frag) (C : Addr) (Ts : List NTab) (S : Addr × List Int) (p a pa q : Addr) (d : Dk) (H : Hp) : Prop where
  row : Row K S H p
  tb : TabsN Ts H
  da : DkAt K C H a pa d
  o1 : Off K S p a
  o2 : Off K S p pa
  oq : Off K S p q
  nq : q ≠ pa
  pq : ∃ vs, H q = some (.lst vs) ∧ PvAll K (fun l => l = p ∨ l = pa ∨ l = q) H vs d.steps
variable {q pa : Addr}
theorem Bq.na (h : Bq K C Ts S p a pa q d H) : q ≠ a := fun e => by
  obtain ⟨vs, h1, _⟩ := h.pq
  obtain ⟨dx, ws, g1, _⟩ := h.da
  rw [e, g1] at h1
  cases h1
theorem Bq.extN (h : Bq K C Ts S p a pa q d H) (x : ExtN H H') (t : TabsN Ts H') : Bq K C Ts S p a pa q d H' := ⟨row_extN x h.row, t, h.da.extN x, h.o1, h.o2, h.oq, h.nq, let ⟨vs, h1, h2⟩ := h.pq; ⟨vs, x _ _ h1 (fun _ z => nomatch z), h2.map fun _ _ a => a.extN x⟩⟩
theorem Bq.ex (h : Bq K C Ts S p a pa q d H) (x : Ex H H') : Bq K C Ts S p a pa q d H' := h.extN (ExtN.of x) (h.tb.ext x)
theorem Bq.bt (h : Bq K C Ts S p a pa q d H) (x : Bt p H H') (r : Row K S H' p) : Bq K C Ts S p a pa q d H' := by
  obtain ⟨vs, h1, h2⟩ := h.pq
  have rp := h.row
  obtain ⟨i, j, k, r1, _⟩ := id rp
  refine ⟨r, tabs_bt h.row x h.tb, h.da.bt h.row x h.o1.1 h.o2.1, h.o1, h.o2, h.oq, h.nq, vs, x _ _ h.oq.1 h1, h2.map fun _ _ a => a.keep (tu_bt rp x) (fun y xs hy => x _ _ (fun e => by rw [e, r1] at hy; cases hy) hy) fun y xs nb hy => x _ _ (fun e => nb (.inl e)) hy⟩
/-- the desk has changed: from now on its steps may be others than the law's -/
theorem Bq.bd {d' : Dk} (h : Bq K C Ts S p a pa q d H) (x : Bd a pa H H') (n : DkAt K C H' a pa d') : Row K S H' p ∧ TabsN Ts H' ∧ ∃ vs, H' q = some (.lst vs) ∧ PvAll K (fun l => l = p ∨ l = pa ∨ l = q) H' vs d.steps := by
  obtain ⟨vs, h1, h2⟩ := h.pq
  obtain ⟨dx, ws, g1, g2, _⟩ := id h.da
  refine ⟨row_bd h.row x h.o1 h.o2, tabs_bd h.tb h.da x, vs, x _ _ h.na h.nq h1, h2.map fun _ _ b => b.keep (tu_bd h.da x) (fun y xs hy => x _ _ (fun e => by rw [e, g1] at hy; cases hy) (fun e => by rw [e, g2] at hy; cases hy) hy) fun y xs nb hy => x _ _ (fun e => by rw [e, g1] at hy; cases hy) (fun e => nb (.inr (.inl e))) hy⟩
/-- the law's past has changed, too -/
theorem bq_past {d' : Dk} {vs ws : List V} (row : Row K S H p) (tb : TabsN Ts H) (da : DkAt K C H a pa d') (o1 : Off K S p a) (o2 : Off K S p pa) (oq : Off K S p q) (nq : q ≠ pa) (hq : H q = some (.lst vs)) (hw : PvAll K (fun l => l = p ∨ l = pa ∨ l = q) H ws d'.steps) : Bq K C Ts S p a pa q d' (upd H q (.lst ws)) := by
  obtain ⟨dx, us, g1, g2, g3⟩ := id da
  have na : a ≠ q := fun e => by rw [← e, g1] at hq; cases hq
  refine ⟨row_q row oq, tabs_keep tb (fun y c hy => (upd_ne fun e => by rw [e, hq] at hy; cases hy).trans hy) (fun y c u hy => (upd_ne fun e => ?_).trans hy), ⟨dx, us, (upd_ne na).trans g1, (upd_ne nq.symm).trans g2, dpAll_tu (tu_lst hq) (imm_steps _) g3⟩, o1, o2, oq, nq, ws, upd_same, hw.map fun _ _ b => b.keep (tu_lst hq) (fun y xs hy => (upd_ne fun e => by rw [e, hq] at hy; cases hy).trans hy) fun y xs nb hy => (upd_ne fun e => nb (.inr (.inr e))).trans hy⟩
  rw [e, hq] at hy
  have e := Option.some.inj hy
  unfold LamX.CodeO at e
  cases e
end
end K27

set_option maxHeartbeats 4000000
set_option autoImplicit false
/-! the law: its words, its first statements. -/
namespace K27
open PySem PySem.Spec PyProof.Rows L2 AsSort AsKit AsToo AsObj
open Evl (Ex Ev EvT EvA)
open LamX (ExtN TabB)
open NdefX (TabsN NTab)
abbrev sLMending : Stmt := top 38

section
variable {P : Program} {w : World} {K : PySem.W.Frag} {mg : Str → Option Value} {base : Heap}
theorem sc_mending : FnScope nMending ["letters", "mender", "text"] (defScope sLMending) := ⟨rfl, rfl, rfl, by decide +kernel, rfl, by decide +kernel, by decide +kernel⟩
theorem c_mending {Ts : List NTab} (D : Df K mg "mending" sLMending) (C1 : Cl P w K mg base 7 "check_letters_and_mender" (spCheckMender K) []) (C2 : Cl P w K mg base 3 "check_text" (spCheckText K) []) (C3 : Cl P w K mg base 5 "mending_of" (spMendingOf K Ts) []) : Cl P w K mg base 8 "mending" (spMend K Ts rowDD) [] := by
  refine cl_of D sc_mending (fun vs H Q E ⟨v, y, ps, z, h, _⟩ => by rw [h]; rfl) (fun _ _ _ _ _ _ us hl => match us, hl with | [_, _, _], _ => rfl) fun f cdv A outer s H vs Q E hr h => ?_
  obtain ⟨v, y, ps, z, rfl, h0, ok, hz, hin, hT, q⟩ := h
  refine ⟨_, pss_cons (ps_expr (C8.pe_c C1 hr (by decide) (by rfl) (pa_cons (pv 0) (pa_cons (pv 1) pa_nil))))
    (pss_cons (ps_expr (C8.pe_c C2 hr (by decide) (by rfl) (pa_cons (pv 0) (pa_cons (pv 2) pa_nil))))
    (pss_cons (ps_asg (C8.pe_c C3 hr (by decide) (by rfl) (pa_cons (pv 1) (pa_cons (pv 2) pa_nil))) (pg_tup rfl (pgs_cons (pg_name (i := 3) sc_mending.nd rfl (.inl rfl)) (pgs_cons (pg_name (i := 4) sc_mending.nd rfl (.inl rfl)) pgs_nil))))
    (pss_one (ps_ret (pv 3))))), ?_⟩
  have a0 : At K (start nMending [.str y, v, .str z]) H 0 (.str y) := ⟨_, rfl, .str y⟩
  have a1 : At K (start nMending [.str y, v, .str z]) H 1 (.tuple (ps.map kD)) := ⟨_, rfl, h0⟩
  have a2 : At K (start nMending [.str y, v, .str z]) H 2 (.str z) := ⟨_, rfl, .str z⟩
  refine q_exprD (K := K) (d_call (ds_cons (d_var a0) (ds_cons (d_var a1) ds_nil)) ⟨y, ps, rfl, ok⟩) fun H1 e1 => ?_
  refine q_exprD (K := K) (d_call (ds_cons (d_var (a0.mono e1)) (ds_cons (d_var (a2.mono e1)) ds_nil)) ⟨y, .str z, rfl, fun x e => by cases e; omega, ?_⟩) fun H2 e2 => ?_
  · show withinS y z 40 = true
    unfold withinS
    rw [hin, decide_eq_true (by omega : (z.length : Int) ≤ 40)]
    rfl
  refine ⟨v, rfl, .str z, rfl, v, y, ps, z, rfl, dp_ex (e1.trans e2) h0, by omega, by have := ok.2.2.2.1; omega, ok.2.2.2.2.2, (hT.ext e1).ext e2, fun u H3 e3 t3 hu => ?_⟩
  refine g_two (K := K) hu fun va vb ha hb2 => ?_
  refine ⟨va, rfl, q va H3 ((extN_ex (e1.trans e2)).trans e3) t3 ha⟩
end
abbrev nLaw : List Str := ["script", "row", "letters", "text", "desk", "now", "past", "turn", "way", "kinds", "told", "deed", "mender", "deeds", "flat", "one", "place", "l", "r", "readers", "story", "again", "reader"]
theorem sc_law : FnScope nLaw ["script"] (defScope sLaw) := ⟨rfl, rfl, rfl, by decide +kernel, rfl, by decide +kernel, by decide +kernel⟩
def noS : Stmt := .Pass ⟨0, 0, 0, 0⟩
def st (i : Nat) : Stmt := (defBody sLaw).getD i noS
theorem pass0 {X : Cx} : L2.Passes (L2.CX X.prog X.w) X C8.E0 := fun pins σ H s e s' I h => by
  obtain ⟨_, _, _, _, _, _, _, _, _, _, _, _, h⟩ := h
  exact h.elim
theorem seven_ok : ∀ y ∈ seven, isLetS y = true ∧ PyData.strOk y = true ∧ 0 < y.length ∧ y.length ≤ 4 := by decide +kernel
theorem sqs_of {K : PySem.W.Frag} {H : Hp} {a p : Addr} {o : HO} {xs : List V} (h : SqL K H a xs) (np : H p = none) : SqS K (upd H p o) p a xs := fun H' b => by
  have go : ∀ u, H a = some u → H' a = some u := fun u e => b a u (fun z => by rw [z, np] at e; cases e) ((upd_ne fun z => by rw [z, np] at e; cases e).trans e)
  rcases h with (h | ⟨o, h⟩) | h
  · exact .inl (.inl (go _ h))
  · exact .inl (.inr ⟨o, go _ h⟩)
  · exact .inr h
abbrev lawX (P : Program) (w : World) (K : PySem.W.Frag) (mg : Str → Option Value) (base : Heap) (f : Addr) (cdv : Value) (A : Around) (outer : List Env) (s : Shared) (H : Hp) (E : XK) : Cx := (cxOf C8.CX0 P w K mg base nLaw "law" (defScope sLaw) f cdv A outer s H E).nox
/-- the desk's class, and what reads a story -/
structure Fns (P : Program) (w : World) (K : PySem.W.Frag) (mg : Str → Option Value) (base : Heap) (C : Addr) (Ts : List NTab) : Prop where
  mk_ : ∃ CL CT, Mkx P w K mg base 4 "Desk" C nInit (spInit K C CL CT)
  cp : ∃ CL CK CT CD CM, Mlx P w K mg base 8 C "copy" ["self", "kinds", "deed"] (spCopy K C CL CK CT CD CM)
  md : Ml P w K mg base 7 C "mend" ["self", "mender"] (spMendR K C Ts)
  un : ∃ CN, Mlx P w K mg base 1 C "undo" ["self"] (spUndo K C CN)
  vd : ∃ CB, Mlx P w K mg base 5 C "verdicts" ["self", "readers"] (spVerdicts K C CB)
  dk : ∃ CI CX, Klx P w K mg base 9 "desk_of" ["text"] (spDeskOf K C CI CX)
  tx : Ml P w K mg base 1 C "text" nText1 (spDText K C)
  rw_ : Ml P w K mg base 1 C "row" ["self"] (spDRow K C)
  sy : Ml P w K mg base 2 C "story" ["self"] (spDStory K C)
/-- all that the law's body is told -/
structure Wo (P : Program) (w : World) (K : PySem.W.Frag) (mg : Str → Option Value) (base : Heap) (C : Addr) (Ts : List NTab) : Prop where
  hb : Bl mg
  hs : mg "str" = none
  CT : Cl P w K mg base 1 "_law_taken" (spTaken K) []
  CP : Cl P w K mg base 2 "_law_pick" (spPick K) []
  C1 : Cl P w K mg base 3 "_law_letters" (spLetters K) []
  C2 : Cl P w K mg base 4 "_law_kinds" (spKinds K) []
  C3 : Cl P w K mg base 3 "_law_text" (spText K) []
  C4 : Cl P w K mg base 2 "_law_reader" (spReader K) []
  C5 : Cl P w K mg base 5 "_law_deeds" (spDeedsL K Ts) []
  C6 : Cl P w K mg base 4 "_law_mender" (spMender K) []
  C7 : Cl P w K mg base 1 "_law_behind" (spTextBehind K) []
  C8 : Cl P w K mg base 6 "_law_leads" (spLeads K Ts) []
  C9 : Cl P w K mg base 2 "_law_says" (spSays K) []
  C10 : Cl P w K mg base 1 "_law_shown" spPSide []
  CA : Cl P w K mg base 4 "_law_alike" (spAlike K 3) []
  CM : Cl P w K mg base 8 "mended" (spMend K Ts endD) []
  CN : Cl P w K mg base 8 "mending" (spMend K Ts rowDD) []
  F : Fns P w K mg base C Ts
section
variable {K : PySem.W.Frag} {C CL CT : Addr} {σ : L2.St} {H : Hp} {ta : TA} {Q : VK} {E : XK} {y z : Str}
/-- a desk that is made -/
theorem mk_desk (h : EvDs K ta σ H [.str y, .str z]) (hy : isLetS y = true) (hl : y.length ≤ 40000) (hw : withinS y z 40 = true) (k : ∀ a ps G, Ex H G → H a = none → H ps = none → DkAt K C G a ps ⟨y, z, z, []⟩ → Q (.ref a) G) : tMake C (spInit K C CL CT) [] E ta σ H Q :=
  h H (Ex.refl H) _ fun vs H1 e hv => by
    cases hv with
    | cons h1 hv =>
    cases hv with
    | cons h2 hv =>
    cases hv
    intro x dx nx ndx ne
    have xe : Ex H1 (upd (upd H1 dx (.own x)) x (.ins C dx [])) := (Ex.new ndx).trans (Ex.new ((upd_ne (fun e => ne e.symm)).trans nx))
    have zl : z.length ≤ 40 := by
      unfold withinS at hw
      simp only [Bool.and_eq_true, decide_eq_true_eq] at hw
      omega
    refine ⟨x, .str y, .str z, _, _, dx, rfl, dp_ex xe h1, dp_ex xe h2, upd_same, (fun z e => by cases e; exact hl), fun hn => ?_, fun y' ey _ => ⟨(fun z e => by cases e; omega), fun hn => ?_, fun z' ez _ H7 e7 H8 ps keep nps hdk => ⟨rfl, ?_⟩⟩⟩
    · have hn : isLetS y = false := hn
      rw [hy] at hn
      cases hn
    · cases ey
      have hn : withinS y z 40 = false := hn
      rw [hw] at hn
      cases hn
    · cases ey
      cases ez
      have hx0 : H x = none := by
        cases q : H x with
        | none => rfl
        | some u => rw [e x u q] at nx; cases nx
      have hps0 : H ps = none := by
        cases q : H ps with
        | none => rfl
        | some u => rw [e7 ps u (xe ps u (e ps u q))] at nps; cases nps
      exact k x ps H8 (fun b u hbu => keep b u (fun e2 => by rw [e2, hx0] at hbu; cases hbu) (e7 b u (xe b u (e b u hbu)))) hx0 hps0 hdk
theorem go_asg3 {t1 t2 t3 : TE} {g : TG} {D : Ends} (h : t1 σ H fun v H1 => t2 σ H1 fun w H2 => t3 σ H2 fun u H3 => [v, w, u].length ≤ sizeLine ∧ ∀ q, H3 q = none → g (.ref q) σ (upd H3 q (.tup [v, w, u])) D.nx) : tAsg (tTup (tCons t1 (tCons t2 (tCons t3 tNil)))) g D σ H := h
end
abbrev dk0 (y z : Str) : Dk := ⟨y, z, z, []⟩
/-- what was drawn -/
structure Drawn (y z : Str) : Prop where
  my : y ∈ seven
  zl : z.length ≤ 6
  zi : allIn y z = true
abbrev sgL (S : Addr × List Int) (p : Addr) (y z : Str) (a : Addr) (now : Str) (q : Addr) (x7 x8 x9 x10 x11 x12 x13 : Option V) : L2.St := [some (.ref S.1), some (.ref p), some (.str y), some (.str z), some (.ref a), some (.str now), some (.ref q), x7, x8, x9, x10, x11, x12, x13, none, none, none, none, none, none, none, none, none]
section
variable {P : Program} {w : World} {K : PySem.W.Frag} {mg : Str → Option Value} {base : Heap} {C : Addr} {Ts : List NTab} {f : Addr} {cdv : Value} {A : Around} {outer : List Env} {s : Shared} {H0 : Hp} {E : XK}
theorem r03 (W : Wo P w K mg base C Ts) (hr : Room 11 (A.deeper (envOfC "law" (defScope sLaw) s.heap.objs.size f cdv))) : ∃ t0 t1 t2 t3, PS (lawX P w K mg base f cdv A outer s H0 E) (st 0) t0 ∧ PS (lawX P w K mg base f cdv A outer s H0 E) (st 1) t1 ∧ PS (lawX P w K mg base f cdv A outer s H0 E) (st 2) t2 ∧ PS (lawX P w K mg base f cdv A outer s H0 E) (st 3) t3 ∧ ∀ (u : TS) (Dn : Ends) (a : Addr) (ns : List Int) (H : Hp), SqL K H a (ns.map V.int) → TabsN Ts H →
    (∀ p y z b pb q H', Drawn y z → Bq K C Ts (a, ns) p b pb q (dk0 y z) H' → u Dn (sgL (a, ns) p y z b z q none none none none none none none) H') → tSeq t0 (tSeq t1 (tSeq t2 (tSeq t3 u))) Dn (L2.start nLaw [.ref a]) H := by
  obtain ⟨hb, hs, CT, CP, C1, C2, C3, C4, C5, C6, C7, C8', C9, C10, CA, CM, CN, F⟩ := W
  have hr11 : Room 11 (lawX P w K mg base f cdv A outer s H0 E).A := hr
  obtain ⟨CL, CT', Fm⟩ := F.mk_
  refine ⟨_, _, _, _, ps_set (i := 1) sc_law.nd rfl (.inr rfl) (pe_lst (pa_cons (pv 0) (pa_cons pe_int (pa_cons pe_int (pa_cons pe_int pa_nil))))), ps_set (i := 2) sc_law.nd rfl (.inr rfl) (C8.pe_c C1 hr (by decide) (by rfl) (pa_cons (pv 1) pa_nil)), ps_set (i := 3) sc_law.nd rfl (.inl rfl) (C8.pe_c C3 hr (by decide) (by rfl) (pa_cons (pv 1) (pa_cons (pv 2) (pa_cons pe_int pa_nil)))),
    ps_asg (pe_tup (pa_cons (pe_mkx Fm hr11 (by decide) (by rfl) pass0 (pa_cons (pv 2) (pa_cons (pv 3) pa_nil))) (pa_cons (pv 3) (pa_cons (pe_lst pa_nil) pa_nil)))) (pg_tup rfl (pgs_cons (pg_name (i := 4) sc_law.nd rfl (.inl rfl)) (pgs_cons (pg_name (i := 5) sc_law.nd rfl (.inr rfl)) (pgs_cons (pg_name (i := 6) sc_law.nd rfl (.inl rfl)) pgs_nil)))), fun u Dn a ns H hS hT k => ?_⟩
  refine ⟨.ref a, rfl, by show 4 ≤ sizeLine; decide, fun p np => ?_⟩
  have hR : Row K (a, ns) (upd H p (.lst [.ref a, .int 0, .int 7427, .int 0])) p := ⟨0, 7427, 0, upd_same, trivial, sqs_of hS np, by decide, by decide, by decide⟩
  have hT1 : TabsN Ts (upd H p (.lst [.ref a, .int 0, .int 7427, .int 0])) := hT.ext (Ex.new np)
  refine ⟨.ref p, rfl, p, (a, ns), rfl, hR, fun y H1 hy b1' R1 => ?_⟩
  obtain ⟨y1, y2, y3, y4⟩ := seven_ok y hy
  have hT2 := tabs_bt hR b1' hT1
  refine ⟨.ref p, rfl, .str y, rfl, p, (a, ns), y, 6, rfl, R1, y3, by omega, by decide, fun z H3 zl zi b3 R3 => ?_⟩
  have hT4 := tabs_bt R1 b3 hT2
  have zw : withinS y z 40 = true := by
    unfold withinS
    rw [zi, Bool.and_true]
    exact decide_eq_true (by omega)
  dsimp only [gName, tSeq]
  refine go_asg3 ?_
  refine mk_desk (K := K) (C := C) (ds_cons (d_var (i := 2) ⟨_, rfl, .str y⟩) (ds_cons (d_var (i := 3) ⟨_, rfl, .str z⟩) ds_nil)) y1 (by omega) zw fun b pb G e nb npb db => ?_
  refine ⟨.str z, rfl, Evl.sz_of (Nat.zero_le _), fun q nq => ?_⟩
  have e2 : Ex G (upd G q (.lst [])) := Ex.new nq
  have nq3 : H3 q = none := by
    cases h : H3 q with
    | none => rfl
    | some u => rw [e q u h] at nq; cases nq
  refine ⟨Evl.sz_of (by show 3 ≤ 100000; decide), fun t nt => ⟨t, _, rfl, Evl.st_of upd_same, rfl, ?_⟩⟩
  have e3 : Ex (upd G q (.lst [])) (upd (upd G q (.lst [])) t (.tup [.ref b, .str z, .ref q])) := Ex.new nt
  refine ⟨_, _, rfl, _, _, rfl, _, _, rfl, rfl, ?_⟩
  have e13 := (e.trans e2).trans e3
  obtain ⟨dx, vs, g1, g2, g3⟩ := id db
  exact k p y z b pb q _ ⟨hy, zl, zi⟩ ⟨R3.ex e13, hT4.ext e13, db.ex (e2.trans e3), off_new R3 nb, off_new R3 npb, off_new R3 nq3, (fun e => by rw [e, g2] at nq; cases nq), [], e3 _ _ upd_same, .nil⟩
end
end K27

set_option maxHeartbeats 4000000
set_option autoImplicit false
/-! the law's loop: the desk copied, mended, taken back. -/
namespace K27
open PySem PySem.Spec PyProof.Rows L2 AsSort AsKit AsToo AsObj
open Evl (Ex Ev EvT EvA)
open LamX (ExtN TabB)
open NdefX (TabsN NTab)
theorem eqv_nilR (xs : List PyData) : PyData.eqv (.list xs) (.list []) = xs.isEmpty := by
  cases xs with
  | nil => rfl
  | cons x xs => simp [PyData.eqv, PyData.eqvAll]
theorem shaped_nil : SeqAt.shaped (.list []) = true := by decide +kernel
theorem deeds_m3 {ks : List (Str × Str)} {t : Str} {d : PyData} (h : d ∈ deedsL ks t) : ∃ p k, k ∈ ks ∧ p ≤ t.length ∧ d = dD p k ∧ hitB t p k = true := by
  unfold deedsL hitsTo at h
  obtain ⟨q, hq, h⟩ := List.mem_flatMap.mp h
  unfold hits at h
  obtain ⟨m, hm, e⟩ := List.mem_map.mp h
  obtain ⟨hm2, hm3⟩ := List.mem_filter.mp hm
  unfold sortO at hm2
  exact ⟨q, m, List.mem_mergeSort.mp hm2, by have := List.mem_range.mp hq; omega, e.symm, hm3⟩
theorem bh_le (z : Str) (p : Nat) (k : Str × Str) : (bhS z p k).length ≤ z.length + k.2.length := by
  have hl : z.cps.toList.length = z.length := Array.length_toList
  have l1 : (cutS z none (some (p : Int))).length = (z.cps.toList.take p).length := by rw [← cut_to]; exact Array.length_toList.symm
  have l2 : (cutS z (some ((p + k.1.length : Nat) : Int)) none).length = (z.cps.toList.drop (p + k.1.length)).length := by rw [← cut_from]; exact Array.length_toList.symm
  unfold bhS
  rw [add_len, add_len, l1, l2, List.length_take, List.length_drop]
  omega
/-- what stays true of the desk -/
structure Dg (y z : Str) (d : Dk) (n : Nat) : Prop where
  ey : d.y = y
  ef : d.first = z
  ch : Chn y z d.steps d.now
  sl : d.steps.length ≤ n
theorem Dg.mono {y z : Str} {d : Dk} {n m : Nat} (h : Dg y z d n) (hn : n ≤ m) : Dg y z d m := ⟨h.ey, h.ef, h.ch, by have := h.sl; omega⟩
theorem Dg.bound {y z : Str} {d : Dk} {n : Nat} (h : Dg y z d n) (dr : Drawn y z) (hn : n ≤ 8) : allIn y d.now = true ∧ d.row.length + d.now.length ≤ 6 + 2 * n ∧ FitP y z d.row d.now := by
  obtain ⟨f1, f2⟩ := h.ch.fit
  have zl := dr.zl
  have sl := h.sl
  exact ⟨(fit_in f1 dr.zi (by omega)).1, by unfold Dk.row; omega, f1⟩
theorem Dg.copy {y z : Str} {d : Dk} {n p : Nat} {k : Str × Str} (h : Dg y z d n) (dr : Drawn y z) (hn : n ≤ 7) (hk : Gd y k) (hit : hitB d.now p k = true) (hp : p ≤ d.now.length) : Dg y z (d.add [(p, k)] (bhS d.now p k)) (n + 1) := by
  have hb := (h.bound dr (by omega)).2.1
  have hl := bh_le d.now p k
  have k2 := hk.2.1
  rw [add_now]
  refine ⟨h.ey, h.ef, .snoc h.ch (by simp) ⟨⟨kindS_gd hk, hit, hp, by omega⟩, rfl⟩ ?_, ?_⟩
  · show 1 + (bhS d.now p k).length ≤ d.now.length + 2
    omega
  · show (d.steps ++ _).length ≤ _
    rw [List.length_append]
    have := h.sl
    show d.steps.length + 1 ≤ _
    omega
theorem Dg.mend {y z : Str} {d : Dk} {n : Nat} {ps : List (Str × Str)} (h : Dg y z d n) (dr : Drawn y z) (hn : n ≤ 7) (hm : Men y ps) : Dg y z (d.add (mend ps d.now).1 (mend ps d.now).2) (n + 1) := by
  have hb := (h.bound dr (by omega)).2.1
  unfold Dk.add
  split
  · exact h.mono (Nat.le_succ _)
  · rename_i hne
    obtain ⟨f1, f2⟩ := fit_mend hm (d.now.length + 1) d.now (by omega)
    refine ⟨h.ey, h.ef, .snoc h.ch hne f1 (by show (mendN ps (d.now.length + 1) d.now).1.length + (mendN ps (d.now.length + 1) d.now).2.length ≤ _; omega), ?_⟩
    show (d.steps ++ _).length ≤ _
    rw [List.length_append]
    have := h.sl
    show d.steps.length + 1 ≤ _
    omega
theorem mend_nil {ps : List (Str × Str)} {z : Str} (h : (mend ps z).1 = []) : (mend ps z).2 = z := by
  unfold mend at *
  cases e : nextK ps z with
  | none => rw [mend_none e]
  | some q =>
    obtain ⟨p, k⟩ := q
    rw [mend_some e] at h
    cases h
theorem Dk.back_snoc {d : Dk} {ss : List (List (Nat × (Str × Str)) × Str)} {s : List (Nat × (Str × Str)) × Str} (e : d.steps = ss ++ [s]) : d.back = { d with now := s.2, steps := ss } := by
  unfold Dk.back
  rw [e]
  simp
theorem snoc_of {α : Type} {l : List α} (h : l ≠ []) : ∃ ss s, l = ss ++ [s] := ⟨l.dropLast, l.getLast h, (List.dropLast_concat_getLast h).symm⟩
/-- the law's past as data -/
def pvD (s : List (Nat × (Str × Str)) × Str) : PyData := .tuple [.list (rowDd s.1), .str s.2]
section
variable {K : PySem.W.Frag} {H : Hp} {bad : Addr → Prop}
theorem PvAll.dp {vs : List V} {ss : List (List (Nat × (Str × Str)) × Str)} (h : PvAll K bad H vs ss) : DpAll K H vs (ss.map pvD) := by
  induction h with
  | nil => exact .nil
  | cons a _ ih =>
    obtain ⟨t, l, acc, rfl, h2, h3, h4, h5⟩ := a
    exact .cons (.tup (Evl.st_of h2) (.cons (.lst (Evl.sq_of h3) h5) (.cons (.str _) .nil))) ih
theorem strOk_in2 {y z : Str} (hy : isLetS y = true) (h : allIn y z = true) : PyData.strOk z = true := strOk_in (let_ok hy) h
theorem dd_ok {y t2 : Str} (hy : isLetS y = true) {rs : List (Nat × (Str × Str))} {t : Str} (f : FitP y t rs t2) (hl : t.length ≤ 40) : ∀ d ∈ rowDd rs, ∃ p k, d = dD p k ∧ PyData.strOk k.1 = true ∧ PyData.strOk k.2 = true := fun d hd => by
  unfold rowDd at hd
  obtain ⟨x, hx, rfl⟩ := List.mem_map.mp hd
  obtain ⟨_, _, k3, k4, _⟩ := kindS_in (fit_all f hl x hx).1
  exact ⟨x.1, x.2, rfl, strOk_in2 hy k3, strOk_in2 hy k4⟩
theorem lay_pv {ds : List PyData} (h : ∀ d ∈ ds, ∃ rs z, d = .tuple [.list rs, .str z] ∧ PyData.canLayAll0 rs = true ∧ PyData.depthAll rs ≤ 2 ∧ PyData.strOk z = true) : PyData.canLayAll0 ds = true ∧ PyData.depthAll ds ≤ 4 := by
  induction ds with
  | nil => simp [PyData.canLayAll0, PyData.depthAll]
  | cons d ds ih =>
    obtain ⟨rs, z, rfl, h1, h2, h3⟩ := h d (List.mem_cons_self ..)
    have z2 := ih fun e he => h e (List.mem_cons_of_mem _ he)
    refine ⟨by simp [PyData.canLay0, PyData.canLayAll0, h1, h3, z2.1], ?_⟩
    have e : PyData.depthAll (.tuple [.list rs, .str z] :: ds) = max (PyData.tuple [.list rs, .str z]).depth (PyData.depthAll ds) := by simp [PyData.depthAll]
    have e2 : (PyData.tuple [.list rs, .str z]).depth ≤ 4 := by
      simp [PyData.depth, PyData.depthAll]
      omega
    rw [e]
    have := z2.2
    omega
theorem Chn.rows {y z0 now : Str} {ss : List (List (Nat × (Str × Str)) × Str)} (hy : isLetS y = true) (h : Chn y z0 ss now) (hi : allIn y z0 = true) (hl : z0.length ≤ 40) : allIn y now = true ∧ now.length ≤ 40 ∧ ∀ s ∈ ss, (∀ d ∈ rowDd s.1, ∃ p k, d = dD p k ∧ PyData.strOk k.1 = true ∧ PyData.strOk k.2 = true) ∧ PyData.strOk s.2 = true := by
  induction h with
  | nil => exact ⟨hi, hl, fun s hs => nomatch hs⟩
  | snoc h1 h2 h3 h4 ih =>
    obtain ⟨i1, i2, i3⟩ := ih
    obtain ⟨j1, j2⟩ := fit_in h3 i1 i2
    refine ⟨j1, j2, fun s hs => ?_⟩
    rcases List.mem_append.mp hs with hs | hs
    · exact i3 s hs
    · rw [List.mem_singleton.mp hs]
      exact ⟨dd_ok hy h3 i2, strOk_in2 hy i1⟩
theorem shaped_pv {y z0 now : Str} {ss : List (List (Nat × (Str × Str)) × Str)} (hy : isLetS y = true) (h : Chn y z0 ss now) (hi : allIn y z0 = true) (hl : z0.length ≤ 40) : SeqAt.shaped (.list (ss.map pvD)) = true := by
  have z := lay_pv (ds := ss.map pvD) fun d hd => by
    obtain ⟨s, hs, rfl⟩ := List.mem_map.mp hd
    obtain ⟨r1, r2⟩ := (h.rows hy hi hl).2.2 s hs
    have l := lay_dds r1
    exact ⟨rowDd s.1, s.2, rfl, l.1, l.2, r2⟩
  unfold SeqAt.shaped
  have e : (PyData.list (ss.map pvD)).depth = PyData.depthAll (ss.map pvD) + 1 := by simp [PyData.depth, Nat.add_comm]
  rw [e, decide_eq_true (by have := z.2; omega), Bool.and_true]
  simpa [PyData.canLay0] using z.1
end
section
variable {P : Program} {w : World} {K : PySem.W.Frag} {mg : Str → Option Value} {base : Heap} {C : Addr} {Ts : List NTab} {f : Addr} {cdv : Value} {A : Around} {outer : List Env} {s : Shared} {H0 : Hp} {E : XK}
theorem r4 (W : Wo P w K mg base C Ts) (hr : Room 11 (A.deeper (envOfC "law" (defScope sLaw) s.heap.objs.size f cdv))) : ∃ t, PS (lawX P w K mg base f cdv A outer s H0 E) (st 4) t ∧ ∀ (Dn : Ends) (S : Addr × List Int) (p : Addr) (y z : Str) (a pa q : Addr) (H : Hp), Drawn y z → Bq K C Ts S p a pa q (dk0 y z) H →
    (∀ d x7 x8 x9 x10 x11 x12 x13 G, Dg y z d 7 → Bq K C Ts S p a pa q d G → Dn.nx (sgL S p y z a d.now q x7 x8 x9 x10 x11 x12 x13) G) → t Dn (sgL S p y z a z q none none none none none none none) H := by
  obtain ⟨hb, hs, CT, CP, C1, C2, C3, C4, C5, C6, C7, C8', C9, C10, CA, CM, CN, F⟩ := W
  have hr11 : Room 11 (lawX P w K mg base f cdv A outer s H0 E).A := hr
  have hu : (lawX P w K mg base f cdv A outer s H0 E).A.units + 64 < cLine := by have := hr11.un; omega
  obtain ⟨CL1, CK1, CT1, CD1, CM1, Fcp⟩ := F.cp
  obtain ⟨CN1, Fun⟩ := F.un
  refine ⟨_, ps_for PassesOwn.never rfl (pi_range1 (by rfl) (hb _ (by decide +kernel)) (pa_cons (C8.pe_c CT hr (by decide) (by rfl) (pa_cons (pv 1) (pa_cons pe_int pa_nil))) pa_nil)) (pg_name (i := 7) sc_law.nd rfl (.inl rfl))
    (pss_cons (ps_par (i := 8) (j := 9) rfl sc_law.nd rfl rfl (by decide) rfl rfl (pa_cons (C8.pe_c CT hr (by decide) (by rfl) (pa_cons (pv 1) (pa_cons pe_int pa_nil))) (pa_cons (C8.pe_c C2 hr (by decide) (by rfl) (pa_cons (pv 1) (pa_cons (pv 2) (pa_cons pe_int pa_nil)))) pa_nil)) rfl)
    (pss_cons (ps_set (i := 10) sc_law.nd rfl (.inl rfl) (C8.pe_c C5 hr (by decide) (by rfl) (pa_cons (pv 9) (pa_cons (pv 5) pa_nil))))
    (pss_one (ps_if (pw_and (pt_cmpR op_lt (pv 8) pe_int (nomark _)) (pw_and1 (pt_cmpR (op_neD hu) (pv 10) (pe_lst pa_nil) (nomark _)))).pt
      (pss_cons (ps_set (i := 11) sc_law.nd rfl (.inl rfl) (C8.pe_c CP hr (by decide) (by rfl) (pa_cons (pv 1) (pa_cons (pv 10) pa_nil))))
      (pss_cons (ps_expr (pe_mx Fcp hr11 (by decide) pass0 (pv 4) (pa_cons (pv 9) (pa_cons (pv 11) pa_nil))))
      (pss_cons (ps_expr (pe_bm PySem.F.plainAttrs_list PySem.F.slot_list_append PySem.F.type_list_append mt_append (pv 6) (pa_cons (pe_tup (pa_cons (pe_lst (pa_cons (pv 11) pa_nil)) (pa_cons (pv 5) pa_nil))) pa_nil)))
      (pss_one (ps_set (i := 5) sc_law.nd rfl (.inr rfl) (C8.pe_c C7 hr (by decide) (by rfl) (pa_cons (pv 5) (pa_cons (pv 11) pa_nil))))))))
      (pss_one (ps_if (pt_cmpR op_eq (pv 8) pe_int (nomark _))
        (pss_cons (ps_set (i := 12) sc_law.nd rfl (.inl rfl) (C8.pe_c C6 hr (by decide) (by rfl) (pa_cons (pv 1) (pa_cons (pv 2) pa_nil))))
        (pss_cons (ps_set (i := 13) sc_law.nd rfl (.inl rfl) (pe_callTy call_list_of (by rfl) (hb _ (by decide +kernel)) (by decide +kernel) (pa_cons (C8.pe_c CN hr (by decide) (by rfl) (pa_cons (pv 2) (pa_cons (pv 12) (pa_cons (pv 5) pa_nil)))) pa_nil)))
        (pss_cons (ps_expr (pe_ml F.md hr11 (by decide) (pv 4) (pa_cons (pv 12) pa_nil)))
        (pss_one (ps_if (pt_cmpR (op_neD hu) (pv 13) (pe_lst pa_nil) (nomark _))
          (pss_cons (ps_expr (pe_bm PySem.F.plainAttrs_list PySem.F.slot_list_append PySem.F.type_list_append mt_append (pv 6) (pa_cons (pe_tup (pa_cons (pv 13) (pa_cons (pv 5) pa_nil))) pa_nil)))
          (pss_one (ps_set (i := 5) sc_law.nd rfl (.inr rfl) (C8.pe_c CM hr (by decide) (by rfl) (pa_cons (pv 2) (pa_cons (pv 12) (pa_cons (pv 5) pa_nil)))))))
          pss_nil)))))
        (pss_one (ps_if (pw_and (pt_cmpR op_eq (pv 8) pe_int (nomark _)) (pw_and1 (pt_cmpR (op_neD hu) (pv 6) (pe_lst pa_nil) (nomark _)))).pt
          (pss_cons (ps_expr (pe_mx0 Fun hr11 (by decide) pass0 (pv 4)))
          (pss_one (ps_set (i := 5) sc_law.nd rfl (.inr rfl) (pe_ix ix_tup (pe_bm0 PySem.F.plainAttrs_list PySem.F.slot_list_pop PySem.F.type_list_pop mt_pop (pv 6)) pe_int (fun _ _ => rfl)))))
          pss_nil))))
      )))), fun Dn S p y z a pa q H dr hB k => ?_⟩
  obtain ⟨y1, y2, y3, y4⟩ := seven_ok y dr.my
  refine ⟨.ref p, rfl, p, S, 8, rfl, hB.row, by decide, by decide, fun m H1 hm b1 R1 => ?_⟩
  refine ⟨(m : Int), rfl, by omega, by omega, ?_⟩
  refine for_range (lo := 0) (n := ((m : Int)).toNat) (fun i σ' H' => ∃ d x7 x8 x9 x10 x11 x12 x13, σ' = sgL S p y z a d.now q x7 x8 x9 x10 x11 x12 x13 ∧ Dg y z d i ∧ Bq K C Ts S p a pa q d H') ⟨dk0 y z, _, _, _, _, _, _, _, rfl, ⟨rfl, rfl, .nil, Nat.le_refl _⟩, hB.bt b1 R1⟩ (fun i σ' H' hi g => ?_) fun σ' H' g => ?_
  · obtain ⟨d, x7, x8, x9, x10, x11, x12, x13, rfl, hG, hB'⟩ := g
    have hi6 : i ≤ 6 := by omega
    obtain ⟨ni, nl, fp⟩ := hG.bound dr (by omega)
    have hnl : d.now.length ≤ 18 := by omega
    refine ⟨.ref p, rfl, p, S, 5, rfl, hB'.row, by decide, by decide, fun w1 H2 hw b2 R2 => ?_⟩
    have hB2 := hB'.bt b2 R2
    refine ⟨.ref p, rfl, .str y, rfl, p, S, y, 4, rfl, R2, y2, y3, by omega, by decide, fun vk ks H3 hk kn kl kg b3 R3 => ?_⟩
    have hB3 := hB2.bt b3 R3
    refine ⟨_, _, rfl, ?_⟩
    refine ⟨vk, rfl, .str d.now, rfl, vk, ks, d.now, rfl, hk, by omega, by omega, (fun m hm => ?_), hB3.tb, fun l acc G eN tG hl hacc => ?_⟩
    · obtain ⟨g1, g2, _⟩ := kg m hm
      exact ⟨by omega, by omega⟩
    have hBG := hB3.extN eN tG
    have hkG := dp_extN eN hk
    have dsh : ∀ x ∈ deedsL ks d.now, ∃ q kk, x = dD q kk ∧ PyData.strOk kk.1 = true ∧ PyData.strOk kk.2 = true := fun x hx => by
      obtain ⟨q, kk, hk, _, rfl⟩ := deeds_m2 hx
      obtain ⟨_, _, g3, g4, _⟩ := kg kk hk
      exact ⟨q, kk, rfl, strOk_in y2 g3, strOk_in y2 g4⟩
    have tld : Dp K G (.ref l) (.list (deedsL ks d.now)) := .lst (Evl.sq_of hl) hacc
    refine Evl.s_if (b := decide ((w1 : Int) < 3) && !(deedsL ks d.now).isEmpty) (Evl.et_and (t_ofD (K := K) (d_cmpI (g := fun i j => decide (i < j)) (d_var (i := 8) ⟨_, rfl, .int _⟩) d_int)) fun _ => Evl.et_is (t_ofD (K := K) (d_neD (d_var (i := 10) ⟨.ref l, rfl, tld⟩) (d_lst ds_nil (Nat.zero_le _)) (shaped_deeds dsh) shaped_nil)) (by rw [eqv_nilR])) (fun hb1 G1 e1 => ?_) fun hb1 G1 e1 => ?_
    · -- a copy
      have hne2 : deedsL ks d.now ≠ [] := fun e => by rw [e] at hb1; simp at hb1
      have hB4 := hBG.ex e1
      have hl1 := e1 _ _ hl
      have ha1 := dpAll_ex e1 hacc
      have hlp : l ≠ p := fun e => by
        obtain ⟨i1, i2, i3, r1, _⟩ := id hB4.row
        rw [e, r1] at hl1
        have ea := Option.some.inj hl1
        injection ea with ea
        subst ea
        have key : ∀ (v0 v1 v2 v3 : V) DS, DpAll K G1 [v0, v1, v2, v3] DS → ∃ x0 x1 r, DS = x0 :: x1 :: r := fun v0 v1 v2 v3 DS h => by
          cases h with
          | cons _ h =>
            cases h with
            | cons _ _ => exact ⟨_, _, _, rfl⟩
        have hd1 := key _ _ _ _ _ ha1
        obtain ⟨x0, x1, r, ed⟩ := hd1
        obtain ⟨q, kk, _, _, e1⟩ := deeds_m2 (show x1 ∈ deedsL ks d.now by rw [ed]; simp)
        rw [ed, e1] at ha1
        cases ha1 with
        | cons _ h =>
          cases h with
          | cons h _ => cases h
      have hal : acc.length = (deedsL ks d.now).length := dpAll_len ha1
      have hdl : (deedsL ks d.now).length ≤ (d.now.length + 1) * ks.length := by
        have := hitsTo_len (sortO ks) d.now (d.now.length + 1)
        rw [sortO_len] at this
        exact this
      have hq60 : (d.now.length + 1) * ks.length ≤ 19 * 4 := Nat.mul_le_mul (by omega) kl
      refine ⟨.ref p, rfl, .ref l, rfl, p, S, l, acc, rfl, hB4.row, hlp, Evl.sq_of hl1, (fun e => ?_), by omega, fun v G2 hv b4 R4 => ?_⟩
      · rw [e] at hal
        exact hne2 (List.length_eq_zero_iff.mp hal.symm)
      obtain ⟨j, hj⟩ := List.mem_iff_getElem?.mp hv
      have hj2 : j < (deedsL ks d.now).length := by rw [← hal]; exact (List.getElem?_eq_some_iff.mp hj).1
      have hjd : (deedsL ks d.now)[j]? = some (deedsL ks d.now)[j] := List.getElem?_eq_getElem hj2
      have hvd := dpAll_get ha1 hj hjd
      obtain ⟨pl, kk, hkk, hq, eq, hit⟩ := deeds_m3 (List.getElem_mem hj2)
      have hmem : dD pl kk ∈ deedsL ks d.now := by rw [← eq]; exact List.getElem_mem hj2
      rw [eq] at hvd
      have hB5 := hB4.bt b4 R4
      have hv5 : Dp K G2 v (dD pl kk) := dp_tu (tu_bt hB4.row b4) rfl hvd
      have hk5 : Dp K G2 vk (.tuple (ks.map kD)) := dp_tu (tu_bt hB4.row b4) (imm_ks ks) (dp_ex e1 hkG)
      have gk := kg kk hkk
      have gk2 := gk.2.1
      have hsl := hG.sl
      have ok : Okay (.str d.y) (.tuple (ks.map kD)) (.str d.now) := ⟨d.y, d.now, ks, rfl, rfl, rfl, by rw [hG.ey]; exact y2, by rw [hG.ey]; omega, by rw [hG.ey]; exact y1, by omega, by rw [hG.ey]; exact ni, by omega, kn, fun m hm => by rw [hG.ey]; exact kg m hm⟩
      have hbl := bh_le d.now pl kk
      obtain ⟨dx, vs, h1', h2', h3'⟩ := id hB5.da
      refine ⟨.ref a, rfl, a, dx, _, rfl, h1', rfl, vk, rfl, v, rfl, a, pa, d, vk, v, _, dD pl kk, rfl, hB5.da, by omega, hk5, hv5, .inr ⟨ok, shaped_dD y2 gk.2.2.1 gk.2.2.2.1, .inr ⟨ks, d.now, pl, kk, rfl, rfl, rfl, hmem, hkk, .inr ⟨by omega, fun H8 e8 b' pp kk2 hu2 hdd hb3 H9 b9 hdk9 => ?_⟩⟩⟩⟩
      cases hu2
      obtain ⟨q1, q2⟩ := dD_inj hdd
      subst q1 q2
      have hB6 := hB5.ex e8
      have tu9 := tu_bd hB6.da b9
      have hv9 : Dp K H9 v (dD pl kk) := dp_tu tu9 rfl (dp_ex e8 hv5)
      obtain ⟨R9, t9, ws, w1', w2'⟩ := hB6.bd b9 hdk9
      -- the past
      refine ⟨.ref q, rfl, .inl ⟨rfl, ws, Evl.sq_of w1'⟩, ?_⟩
      refine ⟨v, rfl, Evl.sz_of (by show 1 ≤ 100000; decide), fun l2 nl2 => ⟨.str d.now, rfl, Evl.sz_of (by show 2 ≤ 100000; decide), fun t2 nt2 => ?_⟩⟩
      have x1 : Ex H9 (upd H9 l2 (.lst [v])) := Ex.new nl2
      have x2 : Ex (upd H9 l2 (.lst [v])) (upd (upd H9 l2 (.lst [v])) t2 (.tup [.ref l2, .str d.now])) := Ex.new nt2
      obtain ⟨G9, eG9⟩ : ∃ G9, G9 = upd (upd H9 l2 (.lst [v])) t2 (.tup [.ref l2, .str d.now]) := ⟨_, rfl⟩
      rw [← eG9] at x2 ⊢
      have xx := x1.trans x2
      have wl : ws.length = d.steps.length := w2'.len
      refine ⟨q, ws, .ref t2, rfl, rfl, xx _ _ w1', Evl.sz_lt (by omega), ?_⟩
      have hl2 : G9 l2 = some (.lst [v]) := x2 _ _ upd_same
      have ht2 : G9 t2 = some (.tup [.ref l2, .str d.now]) := by rw [eG9]; exact upd_same
      obtain ⟨dxx, vsx, z1, z2, z3⟩ := id hdk9
      obtain ⟨i1, i2, i3, r1, _⟩ := id R9
      have pv : PvAt K (fun l => l = p ∨ l = pa ∨ l = q) G9 (.ref t2) ([(pl, kk)], d.now) := ⟨t2, l2, [v], rfl, ht2, hl2, (fun e => by
        rcases e with e | e | e
        · rw [e, r1] at nl2; cases nl2
        · rw [e, z2] at nl2; cases nl2
        · rw [e, w1'] at nl2; cases nl2), .cons (dp_ex xx hv9) .nil⟩
      have hw := (w2'.map fun _ _ b => b.extN (ExtN.of xx)).snoc pv
      have est : (d.add [(pl, kk)] (bhS d.now pl kk)).steps = d.steps ++ [([(pl, kk)], d.now)] := by rw [add_now]
      rw [← est] at hw
      have hB9 := bq_past (row_extN (ExtN.of xx) R9) (t9.ext xx) (hdk9.ex xx) hB'.o1 hB'.o2 hB'.oq hB'.nq (xx _ _ w1') hw
      -- now
      obtain ⟨H10, eH10⟩ : ∃ H10, H10 = upd G9 q (.lst (ws ++ [.ref t2])) := ⟨_, rfl⟩
      rw [← eH10] at hB9 ⊢
      have hv10 : Dp K H10 v (dD pl kk) := by rw [eH10]; exact dp_tu (tu_lst (xx _ _ w1')) rfl (dp_ex xx hv9)
      refine AsKit.s_asg (K := K) (d := .str (bhS d.now pl kk)) (d_call (pre := fun ds => ∃ z p k, ds = [.str z, dD p k] ∧ z.length ≤ 40000 ∧ k.1.length ≤ 40 ∧ k.2.length ≤ 40) (g := two bh2) (ds := [.str d.now, dD pl kk]) (ds_cons (d_var (i := 5) ⟨.str d.now, rfl, .str _⟩) (ds_cons (d_var (i := 11) ⟨v, rfl, hv10⟩) ds_nil)) ⟨d.now, pl, kk, rfl, by omega, by have := gk.1; omega, by omega⟩) fun u G10 e10 hu2 => ?_
      cases hu2
      have enow : (d.add [(pl, kk)] (bhS d.now pl kk)).now = bhS d.now pl kk := by rw [add_now]
      refine ⟨d.add [(pl, kk)] (bhS d.now pl kk), some (.int (0 + (i : Int))), some (.int (w1 : Int)), some vk, some (.ref l), some v, x12, x13, ?_, hG.copy dr (by omega) gk hit hq, hB9.ex e10⟩
      rw [enow]
      rfl
    · refine Evl.s_if (b := decide ((w1 : Int) = 3)) (t_ofD (K := K) (d_eqI (d_var (i := 8) ⟨_, rfl, .int _⟩) d_int)) (fun hb2 G2 e2 => ?_) fun hb2 G2 e2 => ?_
      · -- a mending
        have hB4 := (hBG.ex e1).ex e2
        refine ⟨.ref p, rfl, .str y, rfl, p, S, y, rfl, hB4.row, y2, y3, by omega, fun vm ms H5 hvm mn ml mg b5 R5 => ?_⟩
        have hB5 := hB4.bt b5 R5
        have men : Men y ms := mg
        have okm : OkM y ms := ⟨y2, by omega, y1, by omega, mn, men⟩
        refine ⟨.str y, rfl, vm, rfl, .str d.now, rfl, vm, y, ms, d.now, rfl, hvm, okm, by omega, ni, hB5.tb, fun u H6 e6 t6 hu6 => ?_⟩
        have hB6 := hB5.extN e6 t6
        cases hu6 with
        | tup hq6 hx6 =>
        rename_i ut us
        refine ⟨ut, us, rfl, .inr hq6, fun l2 nl2 => ?_⟩
        have x7 : Ex H6 (upd H6 l2 (.lst us)) := Ex.new nl2
        obtain ⟨H7, eH7⟩ : ∃ H7, H7 = upd H6 l2 (.lst us) := ⟨_, rfl⟩
        rw [← eH7] at x7 ⊢
        have hl2 : H7 l2 = some (.lst us) := by rw [eH7]; exact upd_same
        have hB7 := hB6.ex x7
        have hx7 : DpAll K H7 us (rowDd (mend ms d.now).1) := dpAll_ex x7 hx6
        have hm7 := dp_ex x7 (dp_extN e6 hvm)
        obtain ⟨dx, vs, h1', h2', h3'⟩ := id hB7.da
        have hsl := hG.sl
        -- desk.mend
        refine ⟨.ref a, rfl, a, dx, _, rfl, h1', rfl, vm, rfl, a, pa, d, vm, ms, rfl, hB7.da, by omega, hm7, by rw [hG.ey]; exact okm, by omega, hB7.tb, fun H8 H9 e8 t8 hd8 b9 hdk9 => ?_⟩
        have hB8 := hB7.extN e8 t8
        have hm9 : Dp K H9 vm (.tuple (ms.map kD)) := dp_tu (tu_bd hd8 b9) (imm_ks ms) (dp_extN e8 hm7)
        obtain ⟨R9, t9, ws, w1', w2'⟩ := hB8.bd b9 hdk9
        obtain ⟨dx8, vs8, g1', g2', g3'⟩ := id hd8
        obtain ⟨i1, i2, i3, r1, _⟩ := id R9
        have nba : l2 ≠ a := fun e => by rw [e, h1'] at hl2; cases hl2
        have nbad : ¬ (l2 = p ∨ l2 = pa ∨ l2 = q) := fun e => by
          obtain ⟨j1, j2, j3, r6, _⟩ := id hB6.row
          obtain ⟨ds6, vs6, k1, k2, k3⟩ := id hB6.da
          obtain ⟨us6, q1, q2⟩ := hB6.pq
          rcases e with e | e | e
          · rw [e, r6] at nl2; cases nl2
          · rw [e, k2] at nl2; cases nl2
          · rw [e, q1] at nl2; cases nl2
        have hl9 : H9 l2 = some (.lst us) := b9 _ _ nba (fun e => nbad (.inr (.inl e))) (e8 _ _ hl2 fun _ z => nomatch z)
        have hx9 : DpAll K H9 us (rowDd (mend ms d.now).1) := dpAll_tu (tu_bd hd8 b9) (imm_rowD _) (dpAll_extN e8 hx7)
        have tld9 : Dp K H9 (.ref l2) (.list (rowDd (mend ms d.now).1)) := .lst (Evl.sq_of hl9) hx9
        obtain ⟨fm1, fm2⟩ := fit_mend men (d.now.length + 1) d.now (by omega)
        have sh9 := shaped_deeds (dd_ok y1 fm1 (by omega))
        refine Evl.s_when (b := !(rowDd (mend ms d.now).1).isEmpty) (Evl.et_is (t_ofD (K := K) (d_neD (d_var (i := 13) ⟨.ref l2, rfl, tld9⟩) (d_lst ds_nil (Nat.zero_le _)) sh9 shaped_nil)) (by rw [eqv_nilR])) (fun hb3 G9 e9 => ?_) fun hb3 G9 e9 => ?_
        · have hne : (mend ms d.now).1 ≠ [] := fun e => by rw [e] at hb3; cases hb3
          have w1G := e9 _ _ w1'
          have hlG := e9 _ _ hl9
          have hxG := dpAll_ex e9 hx9
          refine ⟨.ref q, rfl, .inl ⟨rfl, ws, Evl.sq_of w1G⟩, ?_⟩
          refine ⟨.ref l2, rfl, .str d.now, rfl, Evl.sz_of (by show 2 ≤ 100000; decide), fun t2 nt2 => ?_⟩
          have x2 : Ex G9 (upd G9 t2 (.tup [.ref l2, .str d.now])) := Ex.new nt2
          obtain ⟨G10, eG10⟩ : ∃ G10, G10 = upd G9 t2 (.tup [.ref l2, .str d.now]) := ⟨_, rfl⟩
          have ht2 : G10 t2 = some (.tup [.ref l2, .str d.now]) := by rw [eG10]; exact upd_same
          rw [← eG10] at x2 ⊢
          have wl : ws.length = d.steps.length := w2'.len
          refine ⟨q, ws, .ref t2, rfl, rfl, x2 _ _ w1G, Evl.sz_lt (by omega), ?_⟩
          have pv : PvAt K (fun l => l = p ∨ l = pa ∨ l = q) G10 (.ref t2) ((mend ms d.now).1, d.now) := ⟨t2, l2, us, rfl, ht2, x2 _ _ hlG, nbad, dpAll_ex x2 hxG⟩
          have hw := (w2'.map fun _ _ b => b.extN (ExtN.of (e9.trans x2))).snoc pv
          have ead : d.add (mend ms d.now).1 (mend ms d.now).2 = { d with now := (mend ms d.now).2, steps := d.steps ++ [((mend ms d.now).1, d.now)] } := by unfold Dk.add; rw [if_neg hne]
          have est : (d.add (mend ms d.now).1 (mend ms d.now).2).steps = d.steps ++ [((mend ms d.now).1, d.now)] := by rw [ead]
          have enow : (d.add (mend ms d.now).1 (mend ms d.now).2).now = (mend ms d.now).2 := by rw [ead]
          rw [← est] at hw
          have hB9 := bq_past (row_extN (ExtN.of (e9.trans x2)) R9) (t9.ext (e9.trans x2)) (hdk9.ex (e9.trans x2)) hB'.o1 hB'.o2 hB'.oq hB'.nq (x2 _ _ w1G) hw
          have tuq := tu_lst (K := K) (o := .lst (ws ++ [V.ref t2])) (x2 _ _ w1G)
          have hmq : Dp K (upd G10 q (.lst (ws ++ [V.ref t2]))) vm (.tuple (ms.map kD)) := dp_tu tuq (imm_ks ms) (dp_ex (e9.trans x2) hm9)
          obtain ⟨H10, eH10⟩ : ∃ H10, H10 = upd G10 q (.lst (ws ++ [.ref t2])) := ⟨_, rfl⟩
          rw [← eH10] at hB9 hmq ⊢
          refine ⟨.str y, rfl, vm, rfl, .str d.now, rfl, vm, y, ms, d.now, rfl, hmq, okm, by omega, ni, hB9.tb, fun u H11 e11 t11 hu11 => ?_⟩
          cases hu11
          refine ⟨d.add (mend ms d.now).1 (mend ms d.now).2, some (.int (0 + (i : Int))), some (.int (w1 : Int)), some vk, some (.ref l), x11, some vm, some (.ref l2), ?_, hG.mend dr (by omega) men, hB9.extN e11 t11⟩
          rw [enow]
          rfl
        · have he : (mend ms d.now).1 = [] := by
            cases q : (mend ms d.now).1 with
            | nil => rfl
            | cons x r => rw [q] at hb3; cases hb3
          have ead : d.add (mend ms d.now).1 (mend ms d.now).2 = d := by unfold Dk.add; rw [if_pos he]
          rw [ead] at hdk9
          exact ⟨d, _, _, _, _, _, _, _, rfl, hG.mono (Nat.le_succ _), row_extN (ExtN.of e9) R9, t9.ext e9, hdk9.ex e9, hB'.o1, hB'.o2, hB'.oq, hB'.nq, ws, e9 _ _ w1', w2'.map fun _ _ b => b.extN (ExtN.of e9)⟩
      · -- back, or nothing
        have hB4 := (hBG.ex e1).ex e2
        obtain ⟨ws, w1', w2'⟩ := hB4.pq
        have shp := shaped_pv y1 hG.ch dr.zi (by have := dr.zl; omega)
        refine Evl.s_when (b := decide ((w1 : Int) = 4) && !(d.steps.map pvD).isEmpty) (Evl.et_and (t_ofD (K := K) (d_eqI (d_var (i := 8) ⟨_, rfl, .int _⟩) d_int)) fun _ => Evl.et_is (t_ofD (K := K) (d_neD (d_var (i := 6) ⟨.ref q, rfl, .lst (Evl.sq_of w1') w2'.dp⟩) (d_lst ds_nil (Nat.zero_le _)) shp shaped_nil)) (by rw [eqv_nilR])) (fun hb3 G3 e3 => ?_) fun hb3 G3 e3 => ⟨d, _, _, _, _, _, _, _, rfl, hG.mono (Nat.le_succ _), hB4.ex e3⟩
        have hne : d.steps ≠ [] := fun e => by rw [e] at hb3; simp at hb3
        obtain ⟨ss, s1, es⟩ := snoc_of hne
        have hB5 := hB4.ex e3
        obtain ⟨dx, vs, h1', h2', h3'⟩ := id hB5.da
        refine ⟨.ref a, rfl, a, dx, _, rfl, h1', rfl, a, pa, d, rfl, hB5.da, (fun e => absurd e hne), fun _ H9 b9 hdk9 => ?_⟩
        obtain ⟨R9, t9, us, u1, u2⟩ := hB5.bd b9 hdk9
        have ul : us.length = ss.length + 1 := by rw [u2.len, es]; simp
        rw [es] at u2
        obtain ⟨us', v, rfl, ul', u3, u4⟩ := u2.last ul
        have eb := Dk.back_snoc es
        -- past.pop
        have hx : (us' ++ [v])[(us' ++ [v]).length - 1]? = some v := by simp
        refine ⟨.ref q, rfl, .inl ⟨rfl, us' ++ [v], Evl.sq_of u1⟩, q, us' ++ [v], v, rfl, rfl, u1, hx, ?_⟩
        rw [List.dropLast_concat]
        have esb : d.back.steps = ss := by rw [eb]
        have enb : d.back.now = s1.2 := by rw [eb]
        rw [← esb] at u3
        have hBB := bq_past R9 t9 hdk9 hB'.o1 hB'.o2 hB'.oq hB'.nq u1 u3
        obtain ⟨tt, ll, ac, rfl, k2, k3, k4, k5⟩ := u4
        have ntq : tt ≠ q := fun e => by rw [e, u1] at k2; cases k2
        have k2' : upd H9 q (.lst us') tt = some (.tup [.ref ll, .str s1.2]) := (upd_ne ntq).trans k2
        refine ⟨tt, _, 1, .str s1.2, rfl, rfl, Evl.st_of k2', rfl, ?_⟩
        refine ⟨d.back, some (.int (0 + (i : Int))), some (.int (w1 : Int)), some vk, some (.ref l), x11, x12, x13, ?_, ⟨?_, ?_, ?_, ?_⟩, hBB⟩
        · rw [enb]
          rfl
        · rw [eb]; exact hG.ey
        · rw [eb]; exact hG.ef
        · rw [esb, enb]
          have := hG.ch
          rw [es] at this
          exact this.back
        · rw [esb]
          have := hG.sl
          rw [es, List.length_append] at this
          simp at this
          omega
  · obtain ⟨d, x7, x8, x9, x10, x11, x12, x13, rfl, hG, hB'⟩ := g
    exact k d _ _ _ _ _ _ _ H' (hG.mono (by omega)) hB'
end
end K27

set_option maxHeartbeats 4000000
set_option autoImplicit false
/-! the law's row, held against the desk's. -/
namespace K27
open PySem PySem.Spec PyProof.Rows L2 AsSort AsKit AsToo AsObj
open Evl (Ex Ev EvT EvA)
open LamX (ExtN TabB)
open NdefX (TabsN NTab)
abbrev sgM (S : Addr × List Int) (p : Addr) (y z : Str) (a : Addr) (now : Str) (q : Addr) (x7 x8 x9 x10 x11 x12 x13 : Option V) (fl : Addr) (x15 x16 x17 x18 x19 x20 x21 x22 : Option V) : L2.St := [some (.ref S.1), some (.ref p), some (.str y), some (.str z), some (.ref a), some (.str now), some (.ref q), x7, x8, x9, x10, x11, x12, x13, some (.ref fl), x15, x16, x17, x18, x19, x20, x21, x22]
/-- the law's flat row -/
def Fl (K : PySem.W.Frag) (H : Hp) (p fl : Addr) (rs : List (Nat × (Str × Str))) : Prop := fl ≠ p ∧ ∃ acc, H fl = some (.lst acc) ∧ DpAll K H acc (rowDd rs)
section
variable {K : PySem.W.Frag} {H H' : Hp} {p fl : Addr} {rs : List (Nat × (Str × Str))}
theorem Fl.ex (h : Fl K H p fl rs) (e : Ex H H') : Fl K H' p fl rs := let ⟨n, acc, h1, h2⟩ := h; ⟨n, acc, e _ _ h1, dpAll_ex e h2⟩
theorem Fl.extN (h : Fl K H p fl rs) (e : ExtN H H') : Fl K H' p fl rs := let ⟨n, acc, h1, h2⟩ := h; ⟨n, acc, e _ _ h1 (fun _ z => nomatch z), dpAll_extN e h2⟩
theorem Fl.bt {S : Addr × List Int} (h : Fl K H p fl rs) (r : Row K S H p) (b : Bt p H H') : Fl K H' p fl rs := let ⟨n, acc, h1, h2⟩ := h; ⟨n, acc, b _ _ n h1, dpAll_tu (tu_bt r b) (imm_rowD _) h2⟩
theorem Fl.dp (h : Fl K H p fl rs) : Dp K H (.ref fl) (.list (rowDd rs)) := let ⟨_, acc, h1, h2⟩ := h; .lst (Evl.sq_of h1) h2
theorem dpAll_app {G : Hp} {ws : List V} {es : List PyData} (h2 : DpAll K G ws es) : ∀ {vs : List V} {ds : List PyData}, DpAll K G vs ds → DpAll K G (vs ++ ws) (ds ++ es)
  | [], [], .nil => h2
  | _ :: _, _ :: _, .cons a b => .cons a (dpAll_app h2 b)
end
theorem rowDd_app (a b : List (Nat × (Str × Str))) : rowDd (a ++ b) = rowDd a ++ rowDd b := List.map_append
section
variable {P : Program} {w : World} {K : PySem.W.Frag} {mg : Str → Option Value} {base : Heap} {C : Addr} {Ts : List NTab} {f : Addr} {cdv : Value} {A : Around} {outer : List Env} {s : Shared} {H0 : Hp} {E : XK}
theorem r56 (W : Wo P w K mg base C Ts) (hr : Room 11 (A.deeper (envOfC "law" (defScope sLaw) s.heap.objs.size f cdv))) : ∃ t5 t6, PS (lawX P w K mg base f cdv A outer s H0 E) (st 5) t5 ∧ PS (lawX P w K mg base f cdv A outer s H0 E) (st 6) t6 ∧ ∀ (u : TS) (Dn : Ends) (S : Addr × List Int) (p : Addr) (y z : Str) (a pa q : Addr) (d : Dk) (x7 x8 x9 x10 x11 x12 x13 : Option V) (H : Hp), Drawn y z → Dg y z d 7 → Bq K C Ts S p a pa q d H →
    (∀ x13 fl x15 G, Bq K C Ts S p a pa q d G → Fl K G p fl d.row → u Dn (sgM S p y z a d.now q x7 x8 x9 x10 x11 x12 x13 fl x15 none none none none none none none) G) → tSeq t5 (tSeq t6 u) Dn (sgL S p y z a d.now q x7 x8 x9 x10 x11 x12 x13) H := by
  obtain ⟨hb, hs, CT, CP, C1, C2, C3, C4, C5, C6, C7, C8', C9, C10, CA, CM, CN, F⟩ := W
  refine ⟨_, _, ps_set (i := 14) sc_law.nd rfl (.inl rfl) (pe_lst pa_nil), ps_for PassesOwn.never rfl (pi_list (pv 6)) (pg_tup rfl (pgs_cons (pg_name (i := 13) sc_law.nd rfl (.inl rfl)) (pgs_cons (pg_name (i := 15) sc_law.nd rfl (.inl rfl)) pgs_nil))) (pss_one (ps_set (i := 14) sc_law.nd rfl (.inl rfl) (pe_op op_cat (pv 14) (pv 13)))), fun u Dn S p y z a pa q d x7 x8 x9 x10 x11 x12 x13 H dr hG hB k => ?_⟩
  refine ⟨Evl.sz_of (Nat.zero_le _), fun l nl => ?_⟩
  have x1 : Ex H (upd H l (.lst [])) := Ex.new nl
  have hl1 : upd H l (.lst []) l = some (.lst []) := upd_same
  obtain ⟨H1, eH1⟩ : ∃ H1, H1 = upd H l (.lst []) := ⟨_, rfl⟩
  rw [← eH1] at x1 hl1 ⊢
  have hB1 := hB.ex x1
  obtain ⟨i1, i2, i3, r1, _⟩ := id hB.row
  have nlp : l ≠ p := fun e => by rw [e, r1] at nl; cases nl
  obtain ⟨ws, w1, w2⟩ := hB1.pq
  have rl := (hG.bound dr (by decide)).2.1
  refine ⟨.ref q, rfl, _, rfl, ⟨ws, Evl.sq_of w1⟩, ?_⟩
  refine for_list (fun j σ' H' => ∃ x13 fl x15, σ' = sgM S p y z a d.now q x7 x8 x9 x10 x11 x12 x13 fl x15 none none none none none none none ∧ Ex H1 H' ∧ Fl K H' p fl ((d.steps.take j).flatMap (·.1))) ⟨x13, l, none, rfl, Ex.refl H1, nlp, [], hl1, .nil⟩ (fun j σ' H' _ ⟨_, _, _, _, e, _⟩ => Evl.ex_l e (Evl.sq_of w1)) (fun j x σ' H' hj g => ?_) fun σ' H' g => ?_
  · obtain ⟨x13', fl, x15, rfl, e, hF⟩ := g
    obtain ⟨s1, hs1, pv⟩ := w2.get hj
    obtain ⟨t, l3, acc3, rfl, k2, k3, k4, k5⟩ := pv.extN (ExtN.of e)
    obtain ⟨nfp, acc, f1, f2⟩ := hF
    have et : d.steps.take (j + 1) = d.steps.take j ++ [s1] := by rw [List.take_add_one, hs1]; simp
    have ef : (d.steps.take (j + 1)).flatMap (·.1) = (d.steps.take j).flatMap (·.1) ++ s1.1 := by rw [et, List.flatMap_append]; simp
    have hle : ((d.steps.take (j + 1)).flatMap (·.1)).length ≤ d.row.length := by
      unfold Dk.row
      conv => rhs; rw [← List.take_append_drop (j + 1) d.steps, List.flatMap_append, List.length_append]
      omega
    have al : acc.length = (rowDd ((d.steps.take j).flatMap (·.1))).length := dpAll_len f2
    have al3 : acc3.length = (rowDd s1.1).length := dpAll_len k5
    have rdl : ∀ rs, (rowDd rs).length = rs.length := fun rs => List.length_map ..
    rw [rdl] at al al3
    rw [ef, List.length_append] at hle
    refine ⟨t, _, rfl, Evl.st_of k2, rfl, _, _, rfl, _, _, rfl, rfl, ?_⟩
    refine ⟨.ref fl, rfl, .ref l3, rfl, fl, l3, acc, acc3, rfl, rfl, f1, k3, Evl.sz_of (by omega), fun r nr => ?_⟩
    have x2 : Ex H' (upd H' r (.lst (acc ++ acc3))) := Ex.new nr
    refine ⟨some (.ref l3), r, some (.str s1.2), rfl, e.trans x2, ?_, acc ++ acc3, upd_same, ?_⟩
    · intro er
      rw [er, e _ _ (x1 _ _ r1)] at nr
      cases nr
    · rw [ef, rowDd_app]
      exact dpAll_app (dpAll_ex x2 k5) (dpAll_ex x2 f2)
  · obtain ⟨x13', fl, x15, rfl, e, hF⟩ := g
    have hl : ws.length = d.steps.length := w2.len
    rw [hl, List.take_length] at hF
    exact k x13' fl x15 H' (hB1.ex e) hF
theorem okD_row (rs : List (Nat × (Str × Str))) (h : rs.length ≤ 40000) : okD 2 (.tuple (rowDd rs)) := by
  refine ⟨by unfold rowDd; rw [List.length_map]; exact h, fun d hd => ?_⟩
  unfold rowDd at hd
  obtain ⟨x, _, rfl⟩ := List.mem_map.mp hd
  refine ⟨by show 3 ≤ 40000; decide, fun e he => ?_⟩
  simp only [List.mem_cons, List.not_mem_nil, or_false] at he
  rcases he with rfl | rfl | rfl <;> trivial
theorem okD_str (n : Nat) (z : Str) : okD n (.str z) := by cases n <;> trivial
theorem okD_list {n : Nat} {ds : List PyData} (hl : ds.length ≤ 40000) (h : ∀ d ∈ ds, okD n d) : okD (n + 1) (.list ds) := ⟨hl, h⟩
section
variable {σ : L2.St} {G : Hp} {a ps : Addr} {d : Dk} {i : Nat}
theorem d_row (h : DkAt K C G a ps d) (hs : σ[i]? = some (some (.ref a))) (hl : d.row.length ≤ 50000) : EvD K (tMeth C "row" (spDRow K C) [] C8.E0 (tVar i) tNil) σ G (rowT d.row) := fun G2 x2 Q2 q2 => by
  have hd2 := h.ex x2
  obtain ⟨dx, vs, h1, h2, h3⟩ := id hd2
  exact ⟨.ref a, hs, a, dx, _, rfl, h1, rfl, a, ps, d, rfl, hd2, hl, fun v G3 e3 hv => q2 v G3 e3 hv⟩
theorem d_text (h : DkAt K C G a ps d) (hs : σ[i]? = some (some (.ref a))) : EvD K (tMeth C "text" (spDText K C) [] C8.E0 (tVar i) tNil) σ G (.str d.now) := fun G2 x2 Q2 q2 => by
  have hd2 := h.ex x2
  obtain ⟨dx, vs, h1, h2, h3⟩ := id hd2
  exact ⟨.ref a, hs, a, dx, _, rfl, h1, rfl, a, ps, d, rfl, hd2, fun G3 e3 => q2 _ G3 e3 (.str _)⟩
theorem d_story (h : DkAt K C G a ps d) (hs : σ[i]? = some (some (.ref a))) (hl : StOk d) : EvD K (tMeth C "story" (spDStory K C) [] C8.E0 (tVar i) tNil) σ G (.str (storyS d)) := fun G2 x2 Q2 q2 => by
  have hd2 := h.ex x2
  obtain ⟨dx, vs, h1, h2, h3⟩ := id hd2
  exact ⟨.ref a, hs, a, dx, _, rfl, h1, rfl, a, ps, d, rfl, hd2, hl, fun G3 e3 => q2 _ G3 e3 (.str _)⟩
theorem go_or {D : Ends} {t u : TT} {ts tw : TS} (h : EvT t σ G false) (k : ∀ H1, Ex G H1 → u σ H1 fun c H2 => if c = true then ts D σ H2 else tw D σ H2) : tIfS (tOr t u) ts tw D σ G := h G (Ex.refl G) _ fun H1 e1 => iteF' (k H1 e1)
/-- alike(x, x) -/
theorem t_alike {n : Nat} {t1 t2 : TE} {dd : PyData} (h1 : EvD K t1 σ G dd) (h2 : EvD K t2 σ G dd) (ok : okD n dd) : EvT (tNot (tB (tCall (spAlike K n) [] C8.E0 (tCons t1 (tCons t2 tNil))))) σ G false := Evl.et_is (Evl.et_not (t_ofB (K := K) (d_call (g := fun _ => .bool true) (ds_cons h1 (ds_cons h2 ds_nil)) ⟨dd, rfl, ok⟩))) rfl
end
theorem rowT_is (rs : List (Nat × (Str × Str))) : rowT rs = .tuple (rowDd rs) := rfl
/-- the kind of a deed -/
def kindOfD : PyData → PyData
  | .tuple [_, l, r] => .tuple [l, r]
  | _ => .none
theorem kinds_of (rs : List (Nat × (Str × Str))) : ((rowDd rs).filter fun _ => true).map kindOfD = (rs.map (·.2)).map kD := by
  rw [List.filter_eq_self.mpr fun _ _ => rfl]
  unfold rowDd
  rw [List.map_map, List.map_map]
  rfl
theorem r7 (W : Wo P w K mg base C Ts) (hr : Room 11 (A.deeper (envOfC "law" (defScope sLaw) s.heap.objs.size f cdv))) : ∃ t, PS (lawX P w K mg base f cdv A outer s H0 E) (st 7) t ∧ ∀ (Dn : Ends) (S : Addr × List Int) (p : Addr) (y z : Str) (a pa q : Addr) (d : Dk) (x7 x8 x9 x10 x11 x12 x13 : Option V) (fl : Addr) (x15 x16 x17 x18 x19 x20 x21 x22 : Option V) (H : Hp), Drawn y z → Dg y z d 7 → Bq K C Ts S p a pa q d H → Fl K H p fl d.row →
    (∀ G, Bq K C Ts S p a pa q d G → Fl K G p fl d.row → Dn.nx (sgM S p y z a d.now q x7 x8 x9 x10 x11 x12 x13 fl x15 x16 x17 x18 x19 x20 x21 x22) G) → t Dn (sgM S p y z a d.now q x7 x8 x9 x10 x11 x12 x13 fl x15 x16 x17 x18 x19 x20 x21 x22) H := by
  obtain ⟨hb, hs, CT, CP, C1, C2, C3, C4, C5, C6, C7, C8', C9, C10, CA, CM, CN, F⟩ := W
  have hr11 : Room 11 (lawX P w K mg base f cdv A outer s H0 E).A := hr
  refine ⟨_, ps_if (pw_or (pt_not (pt_val (C8.pe_c CA hr (by decide) (by rfl) (pa_cons (pe_lst (pa_cons (pe_ml0 F.tx hr11 (by decide) (pv 4)) (pa_cons (pe_ml0 F.rw_ hr11 (by decide) (pv 4)) pa_nil))) (pa_cons (pe_lst (pa_cons (pv 5) (pa_cons (pe_tupQ hb (pv 14)) pa_nil))) pa_nil)))))
    (pw_or1 (pt_not (pt_val (C8.pe_c C8' hr (by decide) (by rfl) (pa_cons (pe_tupQ hb (pe_lc (own := [("place", 16), ("l", 17), ("r", 18)]) (g := gTup K 3 (gCons (gName 16) (gCons (gName 17) (gCons (gName 18) gNil)))) rfl sc_law.nd (pi_list (pv 14)) (blkOk_by (N := nLaw) (sc := defScope sLaw) (own := [("place", 16), ("l", 17), ("r", 18)]) (by decide +kernel))
      (fun _ _ _ _ _ => pg_tup rfl (pgs_cons (pg_name (i := 16) sc_law.nd rfl (.inl rfl) (.inr rfl)) (pgs_cons (pg_name (i := 17) sc_law.nd rfl (.inl rfl) (.inr rfl)) (pgs_cons (pg_name (i := 18) sc_law.nd rfl (.inl rfl) (.inr rfl)) pgs_nil)))) (fun _ _ _ _ _ => pts_nil) (fun _ _ _ _ _ => pe_tup (pa_cons (pv 17) (pa_cons (pv 18) pa_nil))))) (pa_cons (pv 3) (pa_cons (pv 14) (pa_cons (pv 5) pa_nil))))))))).pt (pss_one (ps_ret pe_bl)) pss_nil, fun Dn S p y z a pa q d x7 x8 x9 x10 x11 x12 x13 fl x15 x16 x17 x18 x19 x20 x21 x22 H dr hG hB hF k => ?_⟩
  obtain ⟨y1, y2, y3, y4⟩ := seven_ok y dr.my
  obtain ⟨ni, rl, fp⟩ := hG.bound dr (by decide)
  have zl := dr.zl
  obtain ⟨σ, eσ⟩ : ∃ σ : L2.St, σ = sgM S p y z a d.now q x7 x8 x9 x10 x11 x12 x13 fl x15 x16 x17 x18 x19 x20 x21 x22 := ⟨_, rfl⟩
  have s4 : σ[4]? = some (some (.ref a)) := by rw [eσ]; rfl
  have a5 : ∀ G, At K σ G 5 (.str d.now) := fun G => ⟨.str d.now, by rw [eσ]; rfl, .str _⟩
  have a14 : ∀ G, Fl K G p fl d.row → At K σ G 14 (.list (rowDd d.row)) := fun G h => ⟨.ref fl, by rw [eσ]; rfl, h.dp⟩
  have rdl : (rowDd d.row).length = d.row.length := List.length_map ..
  rw [← eσ]
  refine go_or (t_alike (K := K) (n := 3) (dd := .list [.str d.now, .tuple (rowDd d.row)]) (d_lst (ds_cons (d_text hB.da s4) (ds_cons (d_row hB.da s4 (by omega)) ds_nil)) (by show 2 ≤ 100000; decide)) (d_lst (ds_cons (d_var (a5 H)) (ds_cons (d_tupOf (d_var (a14 H hF))) ds_nil)) (by show 2 ≤ 100000; decide)) (okD_list (by show 2 ≤ 40000; decide) fun e he => ?_)) fun H1 e1 => ?_
  · simp only [List.mem_cons, List.not_mem_nil, or_false] at he
    rcases he with rfl | rfl
    · exact okD_str 2 _
    · exact okD_row _ (by omega)
  have hB1 := hB.ex e1
  have hF1 := hF.ex e1
  have kin : ∀ x ∈ d.row, kindS y x.2 = true ∧ x.1 ≤ 40 := fit_all fp (by omega)
  refine d_tupOf (K := K) (d_eqTo (d_lcL (K := K) (fun _ => true) kindOfD (d_var (a14 H1 hF1)) (by omega) (fun x hx _ => ?_) fun x hx v H2 e2 hv k2 hk2 => ?_) (congrArg PyData.list (kinds_of d.row))) H1 (Ex.refl H1) _ fun vk H2 e2 hk => ?_
  · unfold rowDd at hx
    obtain ⟨r, _, rfl⟩ := List.mem_map.mp hx
    rfl
  · unfold rowDd at hx
    obtain ⟨r, _, rfl⟩ := List.mem_map.mp hx
    refine g_three (K := K) hv fun va vb vc h1 h2 h3 => ?_
    have sl : σ.length = 23 := by rw [eσ]; rfl
    refine hk2 _ (by simp [wipe, List.set_comm]) (fun H3 e3 Q3 q3 => q3 H3 (Ex.refl H3)) fun _ => d_tup (ds_cons (d_var ⟨vb, ?_, h2⟩) (ds_cons (d_var ⟨vc, ?_, h3⟩) ds_nil)) (by show 2 ≤ 100000; decide)
    · simp [wipe, List.getElem?_set, sl]
    · simp [wipe, List.getElem?_set, sl]
  · have hB2 := hB1.ex e2
    have hF2 := hF1.ex e2
    refine ⟨.str z, by rw [eσ]; rfl, .ref fl, by rw [eσ]; rfl, .str d.now, by rw [eσ]; rfl, vk, .ref fl, d.row.map (·.2), d.row, z, d.now, rfl, hk, hF2.dp, by rw [List.length_map]; omega, fun m hm => ?_, fit_leads fp (by omega) fun x hx => List.mem_map.mpr ⟨x, hx, rfl⟩, hB2.tb, fun H3 e3 t3 => ⟨true, rfl, ?_⟩⟩
    · obtain ⟨x, hx, rfl⟩ := List.mem_map.mp hm
      obtain ⟨l1, l2, l3, l4, _⟩ := kindS_in (kin x hx).1
      exact ⟨by omega, by omega, strOk_in y2 l3, strOk_in y2 l4⟩
    · refine iteF' ?_
      rw [eσ]
      exact k H3 (hB2.extN e3 t3) (hF2.extN e3)
end
end K27

set_option maxHeartbeats 4000000
set_option autoImplicit false
/-! the law's readers, and its story. -/
namespace K27
open PySem PySem.Spec PyProof.Rows L2 AsSort AsKit AsToo AsObj
open Evl (Ex Ev EvT EvA)
open LamX (ExtN TabB)
open NdefX (TabsN NTab)
theorem imm_md (M : Mach) : imm M.d = true := by
  have h1 : imm (.tuple (M.rs.map rowP)) = true := by
    show immAll _ = true
    exact immAll_of fun d hd => by
      obtain ⟨r, _, rfl⟩ := List.mem_map.mp hd
      exact imm_rowP r
  have h2 : imm (.tuple (M.ys.map PyData.bool)) = true := by
    show immAll _ = true
    exact immAll_of fun d hd => by
      obtain ⟨r, _, rfl⟩ := List.mem_map.mp hd
      rfl
  show (true && (imm (.tuple (M.rs.map rowP)) && (imm (.tuple (M.ys.map PyData.bool)) && true))) = true
  rw [h1, h2]
  rfl
theorem imm_mds (ms : List Mach) : immAll (ms.map Mach.d) = true := immAll_of fun d hd => by
  obtain ⟨r, _, rfl⟩ := List.mem_map.mp hd
  exact imm_md r
theorem txrs_ms {ms : List Mach} (hl : ms.length ≤ 1000) (h : ∀ m ∈ ms, m.Ok) : TxRs (.tuple (ms.map Mach.d)) := fun es e => by
  cases e
  refine ⟨by rw [List.length_map]; omega, fun x hx => ?_⟩
  obtain ⟨m, hm, rfl⟩ := List.mem_map.mp hx
  intro ds e2 u hu z ez
  unfold Mach.d at e2
  cases e2
  subst ez
  simp only [List.mem_cons, List.not_mem_nil, or_false] at hu
  rcases hu with hu | hu | hu
  · cases hu
    have := (h m hm).yl
    omega
  · cases hu
  · cases hu
section
variable {P : Program} {w : World} {K : PySem.W.Frag} {mg : Str → Option Value} {base : Heap} {C : Addr} {Ts : List NTab} {f : Addr} {cdv : Value} {A : Around} {outer : List Env} {s : Shared} {H0 : Hp} {E : XK}
theorem r8 (W : Wo P w K mg base C Ts) (hr : Room 11 (A.deeper (envOfC "law" (defScope sLaw) s.heap.objs.size f cdv))) : ∃ t, PS (lawX P w K mg base f cdv A outer s H0 E) (st 8) t ∧ ∀ (Dn : Ends) (S : Addr × List Int) (p : Addr) (y z : Str) (a pa q : Addr) (d : Dk) (x7 x8 x9 x10 x11 x12 x13 : Option V) (fl : Addr) (x15 x16 x17 x18 x19 x20 x21 x22 : Option V) (H : Hp), Drawn y z → Bq K C Ts S p a pa q d H → Fl K H p fl d.row →
    (∀ (vr : V) (ms : List Mach) (G : Hp), Bq K C Ts S p a pa q d G → Fl K G p fl d.row → Dp K G vr (.tuple (ms.map Mach.d)) → ms.length ≤ 1000 → (∀ m ∈ ms, m.Ok ∧ m.y = y) → Dn.nx (sgM S p y z a d.now q x7 x8 x9 x10 x11 x12 x13 fl x15 x16 x17 x18 (some vr) x20 x21 x22) G) → t Dn (sgM S p y z a d.now q x7 x8 x9 x10 x11 x12 x13 fl x15 x16 x17 x18 x19 x20 x21 x22) H := by
  obtain ⟨hb, hs, CT, CP, C1, C2, C3, C4, C5, C6, C7, C8', C9, C10, CA, CM, CN, F⟩ := W
  have hr11 : Room 11 (lawX P w K mg base f cdv A outer s H0 E).A := hr
  refine ⟨_, ps_set (i := 19) sc_law.nd rfl (.inl rfl) (pe_tupQ hb (pe_lcn (te := tCall (spReader K) [] C8.E0 (tCons (tVar 1) (tCons (tVar 2) (tCons (tC (.int 4)) tNil)))) 7 sc_law.nd (pi_range1 (by rfl) (hb _ (by decide +kernel)) (pa_cons (C8.pe_c CT hr (by decide) (by rfl) (pa_cons (pv 1) (pa_cons pe_int pa_nil))) pa_nil)) (fun _ _ _ _ _ => pts_nil)
      (fun _ _ _ _ _ => C8.pe_c C4 hr (by decide) (by rfl) (pa_cons (pv 1) (pa_cons (pv 2) (pa_cons pe_int pa_nil)))) (fun _ _ _ _ _ => pg_name sc_law.nd rfl (.inl rfl)) (blkOk_by (N := nLaw) (sc := defScope sLaw) (own := [("turn", 7)]) (by decide +kernel)) rfl)), fun Dn S p y z a pa q d x7 x8 x9 x10 x11 x12 x13 fl x15 x16 x17 x18 x19 x20 x21 x22 H dr hB hF k => ?_⟩
  obtain ⟨y1, y2, y3, y4⟩ := seven_ok y dr.my
  refine ⟨.ref p, rfl, p, S, 4, rfl, hB.row, by decide, by decide, fun m H1 hm b1 R1 => ?_⟩
  refine ⟨(m : Int), rfl, by omega, by omega, fun D hD => ?_⟩
  have nD := row_new (o := .lst []) R1 hD
  refine lc_range (lo := 0) (n := ((m : Int)).toNat) (fun i H' => Bt p H1 H' ∧ Row K S H' p ∧ ∃ (acc : List V) (ms : List Mach), H' D = some (.lst acc) ∧ DpAll K H' acc (ms.map Mach.d) ∧ ms.length = i ∧ ∀ m ∈ ms, m.Ok ∧ m.y = y) ⟨nD.2.2, nD.2.1, [], [], upd_same, .nil, rfl, fun _ h => nomatch h⟩ (fun i H' hi g => ?_) fun H' g => ?_
  · obtain ⟨p1, p2, acc, ms, p3, p4, p5, p6⟩ := g
    refine ⟨rfl, ?_⟩
    refine ⟨.ref p, rfl, .str y, rfl, p, S, y, 4, rfl, p2, y1, by decide, by decide, fun v M H2 hv ok ey _ b2 R2 => ?_⟩
    have h3 : H2 D = some (.lst acc) := b2 D _ nD.1 p3
    have kk := row_keep (o := .lst (acc ++ [v])) R1 hD (p1.trans b2) R2
    refine ⟨acc, h3, Evl.sz_lt (by rw [dpAll_len p4, List.length_map, p5]; omega), kk.2, kk.1, acc ++ [v], ms ++ [M], upd_same, ?_, by rw [List.length_append, p5]; rfl, fun m hm => ?_⟩
    · rw [List.map_append]
      exact dpAll_snoc (dp_tu (tu_lst h3) (imm_md M) hv) (dpAll_tu (tu_lst h3) (imm_mds ms) (dpAll_tu (tu_bt p2 b2) (imm_mds ms) p4))
    · rcases List.mem_append.mp hm with hm | hm
      · exact p6 m hm
      · rw [List.mem_singleton.mp hm]
        exact ⟨ok, ey⟩
  · obtain ⟨p1, p2, acc, ms, p3, p4, p5, p6⟩ := g
    refine ⟨D, acc, rfl, .inl ⟨Evl.sq_of p3, fun l nl => ?_⟩⟩
    have z := row_new (o := .tup acc) p2 nl
    have x1 : Ex H' (upd H' l (.tup acc)) := Ex.new nl
    exact k _ ms _ (((hB.bt b1 R1).bt p1 p2).ex x1) (((hF.bt hB.row b1).bt R1 p1).ex x1) (.tup (Evl.st_of upd_same) (dpAll_ex x1 p4)) (by omega) p6
section
variable {σ : L2.St} {G : Hp} {a ps : Addr} {d : Dk} {i j : Nat} {CB : Addr} {ms : List Mach}
theorem d_verd (h : DkAt K C G a ps d) (hs : σ[i]? = some (some (.ref a))) (hv : At K σ G j (.tuple (ms.map Mach.d))) (hl : ms.length ≤ 1000) (hi : allIn d.y d.now = true) (ho : ∀ m ∈ ms, m.Ok ∧ m.y = d.y) : EvD K (tMeth C "verdicts" (spVerdicts K C CB) [] C8.E0 (tVar i) (tCons (tVar j) tNil)) σ G (.tuple (ms.map fun m => .bool (m.says d.now.cps.toList))) := fun G2 x2 Q2 q2 => by
  have hd2 := h.ex x2
  obtain ⟨dx, vs, h1, h2, h3⟩ := id hd2
  obtain ⟨v, hv1, hv2⟩ := hv.mono x2
  exact ⟨.ref a, hs, a, dx, _, rfl, h1, rfl, v, hv1, a, ps, d, v, _, rfl, hd2, hv2, txrs_ms hl fun m hm => (ho m hm).1, .inr ⟨ms, rfl, hl, hi, ho, fun u G3 e3 hu => q2 u G3 e3 hu⟩⟩
end
theorem okD_bools (n : Nat) (bs : List Bool) (h : bs.length ≤ 40000) : okD (n + 1) (.tuple (bs.map PyData.bool)) := by
  refine ⟨by rw [List.length_map]; exact h, fun d hd => ?_⟩
  obtain ⟨x, _, rfl⟩ := List.mem_map.mp hd
  cases n <;> trivial
theorem r9 (W : Wo P w K mg base C Ts) (hr : Room 11 (A.deeper (envOfC "law" (defScope sLaw) s.heap.objs.size f cdv))) : ∃ t, PS (lawX P w K mg base f cdv A outer s H0 E) (st 9) t ∧ ∀ (Dn : Ends) (S : Addr × List Int) (p : Addr) (y z : Str) (a pa q : Addr) (d : Dk) (x7 x8 x9 x10 x11 x12 x13 : Option V) (fl : Addr) (x15 x16 x17 x18 : Option V) (vr : V) (x20 x21 x22 : Option V) (ms : List Mach) (H : Hp), Drawn y z → Dg y z d 7 → Bq K C Ts S p a pa q d H → Fl K H p fl d.row → Dp K H vr (.tuple (ms.map Mach.d)) → ms.length ≤ 1000 → (∀ m ∈ ms, m.Ok ∧ m.y = y) →
    (∀ G, Bq K C Ts S p a pa q d G → Fl K G p fl d.row → Dn.nx (sgM S p y z a d.now q x7 x8 x9 x10 x11 x12 x13 fl x15 x16 x17 x18 (some vr) x20 x21 x22) G) → t Dn (sgM S p y z a d.now q x7 x8 x9 x10 x11 x12 x13 fl x15 x16 x17 x18 (some vr) x20 x21 x22) H := by
  obtain ⟨hb, hs, CT, CP, C1, C2, C3, C4, C5, C6, C7, C8', C9, C10, CA, CM, CN, F⟩ := W
  have hr11 : Room 11 (lawX P w K mg base f cdv A outer s H0 E).A := hr
  obtain ⟨CB, Fvd⟩ := F.vd
  refine ⟨_, ps_if (pt_not (pt_val (C8.pe_c CA hr (by decide) (by rfl) (pa_cons (pe_mx Fvd hr11 (by decide) pass0 (pv 4) (pa_cons (pv 19) pa_nil)) (pa_cons (pe_tupQ hb (pe_lcn (te := tCall (spSays K) [] C8.E0 (tCons (tVar 22) (tCons (tVar 5) tNil))) 22 sc_law.nd (pi_tup (pv 19)) (fun _ _ _ _ _ => pts_nil) (fun _ _ _ _ _ => C8.pe_c C9 hr (by decide) (by rfl) (pa_cons (pv 22) (pa_cons (pv 5) pa_nil))) (fun _ _ _ _ _ => pg_name sc_law.nd rfl (.inl rfl)) (blkOk_by (N := nLaw) (sc := defScope sLaw) (own := [("reader", 22)]) (by decide +kernel)) rfl)) pa_nil))))) (pss_one (ps_ret pe_bl)) pss_nil, fun Dn S p y z a pa q d x7 x8 x9 x10 x11 x12 x13 fl x15 x16 x17 x18 vr x20 x21 x22 ms H dr hG hB hF hvr hml hms k => ?_⟩
  obtain ⟨y1, y2, y3, y4⟩ := seven_ok y dr.my
  obtain ⟨ni, rl, fp⟩ := hG.bound dr (by decide)
  obtain ⟨σ, eσ⟩ : ∃ σ : L2.St, σ = sgM S p y z a d.now q x7 x8 x9 x10 x11 x12 x13 fl x15 x16 x17 x18 (some vr) x20 x21 x22 := ⟨_, rfl⟩
  have s4 : σ[4]? = some (some (.ref a)) := by rw [eσ]; rfl
  have a19 : At K σ H 19 (.tuple (ms.map Mach.d)) := ⟨vr, by rw [eσ]; rfl, hvr⟩
  have sl : σ.length = 23 := by rw [eσ]; rfl
  have w5 : ∀ x, ((wipe σ [22]).set 22 x)[5]? = some (some (.str d.now)) := fun x => by rw [eσ]; rfl
  have hd : ms.map (fun m => PyData.bool (m.says d.now.cps.toList)) = (ms.map fun m => m.says d.now.cps.toList).map PyData.bool := by rw [List.map_map]; rfl
  rw [← eσ]
  refine Evl.s_when (b := false) (t_alike (K := K) (n := 3) (dd := .tuple (ms.map fun m => .bool (m.says d.now.cps.toList))) (d_verd hB.da s4 a19 hml (by rw [hG.ey]; exact ni) fun m hm => by rw [hG.ey]; exact hms m hm) (d_tupOf (d_eqTo (d_lcT (fun _ => true) (fun r => .bool ((machOf r).says d.now.cps.toList)) (d_var a19) (by rw [List.length_map]; omega) (fun _ _ _ => rfl) fun r hr2 x H2 e2 hx k2 hk2 => hk2 ((wipe σ [22]).set 22 (some x)) (by simp [wipe]) (fun H3 e3 Q q => q H3 (Ex.refl H3)) fun _ => ?_) ?_)) (by rw [hd]; exact okD_bools 2 _ (by rw [List.length_map]; omega))) (fun h => nomatch h) fun _ G e => ?_
  · obtain ⟨m, hm, rfl⟩ := List.mem_map.mp hr2
    rw [machOf_d]
    obtain ⟨om, ym⟩ := hms m hm
    exact fun H3 e3 Q3 q3 => ⟨x, by simp [wipe, sl], .str d.now, w5 _, m, d.now, .cons (dp_ex e3 hx) (.cons (.str _) .nil), om, by rw [ym]; exact ni, fun v H4 e4 hv => q3 v H4 e4 hv⟩
  · rw [List.filter_eq_self.mpr fun _ _ => rfl, List.map_map]
    exact congrArg PyData.list (List.map_congr_left fun m _ => by show PyData.bool ((machOf m.d).says _) = _; rw [machOf_d])
  · rw [eσ]
    exact k G (hB.ex e) (hF.ex e)
/-- lengths of the story -/
theorem stN_len {acc : Str} {x : Nat × (Str × Str)} (h1 : x.1 ≤ 400) (h2 : x.2.1.length ≤ 3) (h3 : x.2.2.length ≤ 1) : (stN acc x).length ≤ acc.length + 14 := by
  unfold stN
  have a := intS_len x.1 h1
  have b := shown_len x.2.1
  have c := shown_len x.2.2
  have l1 : (" " : Str).length = 1 := by decide +kernel
  have l3 : (" > " : Str).length = 3 := by decide +kernel
  have l4 : ("\n" : Str).length = 1 := by decide +kernel
  rw [add_len, add_len, add_len, add_len, add_len, add_len, l1, l3, l4]
  omega
theorem fold_len : ∀ {rs : List (Nat × (Str × Str))} {acc : Str}, (∀ x ∈ rs, x.1 ≤ 400 ∧ x.2.1.length ≤ 3 ∧ x.2.2.length ≤ 1) → (rs.foldl stN acc).length ≤ acc.length + 14 * rs.length
  | [], acc, _ => Nat.le_add_right _ _
  | x :: rs, acc, h => by
    obtain ⟨h1, h2, h3⟩ := h x (List.mem_cons_self ..)
    have i1 := stN_len (acc := acc) h1 h2 h3
    have i2 := fold_len (rs := rs) (acc := stN acc x) fun z hz => h z (List.mem_cons_of_mem _ hz)
    rw [List.foldl_cons, List.length_cons]
    omega
theorem st0_len {y first : Str} (h1 : y.length ≤ 4) (h2 : first.length ≤ 6) : (st0 y first).length ≤ 40 := by
  unfold st0
  have b := shown_len first
  have l1 : ("letters " : Str).length = 8 := by decide +kernel
  have l3 : ("\ntext " : Str).length = 6 := by decide +kernel
  have l4 : ("\n" : Str).length = 1 := by decide +kernel
  rw [add_len, add_len, add_len, add_len, l1, l3, l4]
  omega
end
end K27

set_option maxHeartbeats 4000000
set_option autoImplicit false
/-! the law's story, read again; the law. -/
namespace K27
open PySem PySem.Spec PyProof.Rows L2 AsSort AsKit AsToo AsObj
open Evl (Ex Ev EvT EvA)
open LamX (ExtN TabB)
open NdefX (TabsN NTab)
section
variable {P : Program} {w : World} {K : PySem.W.Frag} {mg : Str → Option Value} {base : Heap} {C : Addr} {Ts : List NTab} {f : Addr} {cdv : Value} {A : Around} {outer : List Env} {s : Shared} {H0 : Hp} {E : XK}
section
variable {σ : L2.St} {G : Hp} {te : TE}
theorem d_shown {x : Str} (h : EvD K te σ G (.str x)) : EvD K (tCall spPSide [] C8.E0 (tCons te tNil)) σ G (.str (shown x)) := fun H1 e Q q => h H1 e _ fun v H2 e2 hv => by
  cases hv
  exact ⟨x, rfl, fun H3 e3 => q _ H3 (e2.trans e3) (.str _)⟩
end
theorem r10 (W : Wo P w K mg base C Ts) (hr : Room 11 (A.deeper (envOfC "law" (defScope sLaw) s.heap.objs.size f cdv))) : ∃ t10 t11, PS (lawX P w K mg base f cdv A outer s H0 E) (st 10) t10 ∧ PS (lawX P w K mg base f cdv A outer s H0 E) (st 11) t11 ∧ ∀ (u : TS) (Dn : Ends) (S : Addr × List Int) (p : Addr) (y z : Str) (a pa q : Addr) (d : Dk) (x7 x8 x9 x10 x11 x12 x13 : Option V) (fl : Addr) (x15 x16 x17 x18 x19 x20 x21 x22 : Option V) (H : Hp), Drawn y z → Dg y z d 7 → Bq K C Ts S p a pa q d H → Fl K H p fl d.row →
    (∀ x16 x17 x18 G, Bq K C Ts S p a pa q d G → Fl K G p fl d.row → u Dn (sgM S p y z a d.now q x7 x8 x9 x10 x11 x12 x13 fl x15 x16 x17 x18 x19 (some (.str (storyS d))) x21 x22) G) → tSeq t10 (tSeq t11 u) Dn (sgM S p y z a d.now q x7 x8 x9 x10 x11 x12 x13 fl x15 x16 x17 x18 x19 x20 x21 x22) H := by
  obtain ⟨hb, hs, CT, CP, C1, C2, C3, C4, C5, C6, C7, C8', C9, C10, CA, CM, CN, F⟩ := W
  have hr11 : Room 11 (lawX P w K mg base f cdv A outer s H0 E).A := hr
  refine ⟨_, _, ps_set (i := 20) sc_law.nd rfl (.inl rfl) (pe_op op_add_str (pe_op op_add_str (pe_op op_add_str (pe_op op_add_str pe_str (pv 2)) pe_str) (C8.pe_c C10 hr (by decide) (by rfl) (pa_cons (pv 3) pa_nil))) pe_str),
    ps_for PassesOwn.never rfl (pi_list (pv 14)) (pg_tup rfl (pgs_cons (pg_name (i := 16) sc_law.nd rfl (.inl rfl)) (pgs_cons (pg_name (i := 17) sc_law.nd rfl (.inl rfl)) (pgs_cons (pg_name (i := 18) sc_law.nd rfl (.inl rfl)) pgs_nil)))) (pss_one (ps_set (i := 20) sc_law.nd rfl (.inl rfl) (pe_op op_add_str (pe_op op_add_str (pe_op op_add_str (pe_op op_add_str (pe_op op_add_str (pe_op op_add_str (pv 20) (pe_callTy call_str_int (by rfl) (hb _ (by decide +kernel)) (by decide +kernel) (pa_cons (pv 16) pa_nil))) pe_str) (C8.pe_c C10 hr (by decide) (by rfl) (pa_cons (pv 17) pa_nil))) pe_str) (C8.pe_c C10 hr (by decide) (by rfl) (pa_cons (pv 18) pa_nil))) pe_str))),
    fun u Dn S p y z a pa q d x7 x8 x9 x10 x11 x12 x13 fl x15 x16 x17 x18 x19 x20 x21 x22 H dr hG hB hF k => ?_⟩
  obtain ⟨y1, y2, y3, y4⟩ := seven_ok y dr.my
  obtain ⟨ni, rl, fp⟩ := hG.bound dr (by decide)
  have zl := dr.zl
  have hst0 := st0_len y4 zl
  have kin : ∀ x ∈ d.row, kindS y x.2 = true ∧ x.1 ≤ 40 := fit_all fp (by omega)
  have lens : ∀ x ∈ d.row, x.1 ≤ 400 ∧ x.2.1.length ≤ 3 ∧ x.2.2.length ≤ 1 := fun x hx => by
    obtain ⟨k1, k2⟩ := kin x hx
    obtain ⟨l1, l2, _⟩ := kindS_in k1
    exact ⟨by omega, l1, l2⟩
  have c1 : ("letters " : Str).length = 8 := by decide +kernel
  have c2 : ("\ntext " : Str).length = 6 := by decide +kernel
  have c3 : ("\n" : Str).length = 1 := by decide +kernel
  have c4 : (" " : Str).length = 1 := by decide +kernel
  have c5 : (" > " : Str).length = 3 := by decide +kernel
  have sz := shown_len z
  refine AsKit.q_asg (K := K) (d := .str (st0 y z)) (d_addS (x := ("letters " : Str) ++ y ++ "\ntext " ++ shown z) (d_addS (x := ("letters " : Str) ++ y ++ "\ntext ") (d_addS (x := ("letters " : Str) ++ y) (d_addS d_str (d_var (i := 2) ⟨.str y, rfl, .str _⟩) (by omega)) d_str (by rw [add_len]; omega)) (d_shown (d_var (i := 3) ⟨.str z, rfl, .str _⟩)) (by rw [add_len, add_len]; omega)) d_str (by rw [add_len, add_len, add_len]; omega)) fun v H1 e1 hv => ?_
  cases hv
  have hB1 := hB.ex e1
  have hF1 := hF.ex e1
  obtain ⟨nfp, acc, f1, f2⟩ := id hF1
  refine ⟨.ref fl, rfl, _, rfl, ⟨acc, Evl.sq_of f1⟩, ?_⟩
  refine for_list (fun j σ' H' => ∃ x16 x17 x18, σ' = sgM S p y z a d.now q x7 x8 x9 x10 x11 x12 x13 fl x15 x16 x17 x18 x19 (some (.str ((d.row.take j).foldl stN (st0 y z)))) x21 x22 ∧ Ex H1 H') ⟨_, _, _, rfl, Ex.refl H1⟩ (fun j σ' H' _ ⟨_, _, _, _, e⟩ => Evl.ex_l e (Evl.sq_of f1)) (fun j x σ' H' hj g => ?_) fun σ' H' g => ?_
  · obtain ⟨x16', x17', x18', rfl, e⟩ := g
    have al : acc.length = (rowDd d.row).length := dpAll_len f2
    have rdl : (rowDd d.row).length = d.row.length := List.length_map ..
    have hj1 := (List.getElem?_eq_some_iff.mp hj).1
    have hj2 : j < d.row.length := by omega
    have hrj : d.row[j]? = some d.row[j] := List.getElem?_eq_getElem hj2
    have hdj : (rowDd d.row)[j]? = some (dD d.row[j].1 d.row[j].2) := by unfold rowDd; rw [List.getElem?_map, hrj]; rfl
    have hxd := dp_ex e (dpAll_get f2 hj hdj)
    obtain ⟨r, er⟩ : ∃ r, r = d.row[j] := ⟨_, rfl⟩
    rw [← er] at hxd hrj
    have hmem : r ∈ d.row := List.mem_of_getElem? hrj
    obtain ⟨l1, l2, l3⟩ := lens r hmem
    have et : (d.row.take (j + 1)).foldl stN (st0 y z) = stN ((d.row.take j).foldl stN (st0 y z)) r := by rw [List.take_add_one, hrj, List.foldl_append]; rfl
    have fl1 := fold_len (rs := d.row.take j) (acc := st0 y z) fun x hx => lens x (List.mem_of_mem_take hx)
    have fl2 := List.length_take_le j d.row
    have fl3 := List.length_take_le' j d.row
    obtain ⟨ac, eac⟩ : ∃ ac, ac = (d.row.take j).foldl stN (st0 y z) := ⟨_, rfl⟩
    rw [← eac] at et fl1 ⊢
    have acl : ac.length ≤ 400 := by omega
    have i1 := intS_len r.1 l1
    have i2 := shown_len r.2.1
    have i3 := shown_len r.2.2
    refine g_three (K := K) hxd fun va vb vc h1 h2 h3 => ?_
    cases h1
    cases h2
    cases h3
    obtain ⟨σ, eσ⟩ : ∃ σ : L2.St, σ = sgM S p y z a d.now q x7 x8 x9 x10 x11 x12 x13 fl x15 (some (.int (r.1 : Int))) (some (.str r.2.1)) (some (.str r.2.2)) x19 (some (.str ac)) x21 x22 := ⟨_, rfl⟩
    show tAsg _ _ _ (sgM S p y z a d.now q x7 x8 x9 x10 x11 x12 x13 fl x15 (some (.int (r.1 : Int))) (some (.str r.2.1)) (some (.str r.2.2)) x19 (some (.str ac)) x21 x22) H'
    rw [← eσ]
    have a16 : At K σ H' 16 (.int (r.1 : Int)) := ⟨_, by rw [eσ]; rfl, .int _⟩
    have a17 : At K σ H' 17 (.str r.2.1) := ⟨_, by rw [eσ]; rfl, .str _⟩
    have a18 : At K σ H' 18 (.str r.2.2) := ⟨_, by rw [eσ]; rfl, .str _⟩
    have a20 : At K σ H' 20 (.str ac) := ⟨_, by rw [eσ]; rfl, .str _⟩
    have hi : EvD K (tCB (fun xs H Q => ∃ i, xs = [V.int i] ∧ i.natAbs.log2 < 1920 ∧ Q (.str (toString i)) H) (tCons (tVar 16) tNil)) σ H' (.str (intS r.1)) := d_strI (d_var a16) (log_small r.1 l1)
    refine AsKit.s_asg (K := K) (d := .str (stN ac r)) (d_addS (x := ac ++ intS r.1 ++ " " ++ shown r.2.1 ++ " > " ++ shown r.2.2) (d_addS (x := ac ++ intS r.1 ++ " " ++ shown r.2.1 ++ " > ") (d_addS (x := ac ++ intS r.1 ++ " " ++ shown r.2.1) (d_addS (x := ac ++ intS r.1 ++ " ") (d_addS (x := ac ++ intS r.1) (d_addS (d_var a20) hi (by omega)) d_str (by rw [add_len]; omega)) (d_shown (d_var a17)) (by rw [add_len, add_len]; omega)) d_str (by rw [add_len, add_len, add_len]; omega)) (d_shown (d_var a18)) (by rw [add_len, add_len, add_len, add_len]; omega)) d_str (by rw [add_len, add_len, add_len, add_len, add_len]; omega)) fun v H2 e2 hv => ?_
    cases hv
    rw [eσ, et]
    exact ⟨_, _, _, rfl, e.trans e2⟩
  · obtain ⟨x16', x17', x18', rfl, e⟩ := g
    have al : acc.length = d.row.length := by rw [dpAll_len f2]; exact List.length_map ..
    rw [al, List.take_length]
    have es := story_own d
    rw [hG.ey, hG.ef] at es
    rw [es]
    exact k _ _ _ H' (hB1.ex e) (hF1.ex e)
theorem st_ok {y z : Str} {d : Dk} (hG : Dg y z d 7) (dr : Drawn y z) : StOk d ∧ (storyS d).length ≤ 900 := by
  obtain ⟨y1, y2, y3, y4⟩ := seven_ok y dr.my
  obtain ⟨ni, rl, fp⟩ := hG.bound dr (by decide)
  have zl := dr.zl
  have lens : ∀ x ∈ d.row, x.1 ≤ 400 ∧ x.2.1.length ≤ 3 ∧ x.2.2.length ≤ 1 := fun x hx => by
    obtain ⟨k1, k2⟩ := fit_all fp (by omega) x hx
    obtain ⟨l1, l2, _⟩ := kindS_in k1
    exact ⟨by omega, l1, l2⟩
  refine ⟨⟨by rw [hG.ey]; omega, by rw [hG.ef]; omega, by omega, fun x hx => ?_⟩, ?_⟩
  · obtain ⟨l1, l2, l3⟩ := lens x hx
    exact ⟨l1, by omega, by omega⟩
  · rw [← story_own d, hG.ey, hG.ef]
    have fl1 := fold_len (rs := d.row) (acc := st0 y z) lens
    have := st0_len y4 zl
    omega
theorem r12 (W : Wo P w K mg base C Ts) (hr : Room 11 (A.deeper (envOfC "law" (defScope sLaw) s.heap.objs.size f cdv))) : ∃ t12 t13 t14, PS (lawX P w K mg base f cdv A outer s H0 E) (st 12) t12 ∧ PS (lawX P w K mg base f cdv A outer s H0 E) (st 13) t13 ∧ PS (lawX P w K mg base f cdv A outer s H0 E) (st 14) t14 ∧ ∀ (Dn : Ends) (S : Addr × List Int) (p : Addr) (y z : Str) (a pa q : Addr) (d : Dk) (x7 x8 x9 x10 x11 x12 x13 : Option V) (fl : Addr) (x15 x16 x17 x18 x19 x21 x22 : Option V) (H : Hp), Drawn y z → Dg y z d 7 → Bq K C Ts S p a pa q d H → Fl K H p fl d.row →
    (∀ G, Dn.rt (.bl true) G) → tSeq t12 (tSeq t13 t14) Dn (sgM S p y z a d.now q x7 x8 x9 x10 x11 x12 x13 fl x15 x16 x17 x18 x19 (some (.str (storyS d))) x21 x22) H := by
  obtain ⟨hb, hs, CT, CP, C1, C2, C3, C4, C5, C6, C7, C8', C9, C10, CA, CM, CN, F⟩ := W
  have hr11 : Room 11 (lawX P w K mg base f cdv A outer s H0 E).A := hr
  obtain ⟨CI, CX, f1, fd1, F1, m1, k1, b1⟩ := F.dk
  refine ⟨_, _, _, ps_set (i := 21) sc_law.nd rfl (.inl rfl) (pe_call F1 (hr.mono (by decide)) (by rfl) m1 k1 b1 .nil pass0 (pa_cons (pv 20) pa_nil)),
    ps_if (pt_not (pt_val (C8.pe_c CA hr (by decide) (by rfl) (pa_cons (pe_lst (pa_cons (pe_ml0 F.sy hr11 (by decide) (pv 4)) (pa_cons (pe_ml0 F.sy hr11 (by decide) (pv 21)) (pa_cons (pe_ml0 F.tx hr11 (by decide) (pv 21)) (pa_cons (pe_ml0 F.rw_ hr11 (by decide) (pv 21)) pa_nil))))) (pa_cons (pe_lst (pa_cons (pv 20) (pa_cons (pv 20) (pa_cons (pv 5) (pa_cons (pe_tupQ hb (pv 14)) pa_nil))))) pa_nil))))) (pss_one (ps_ret pe_bl)) pss_nil,
    ps_ret pe_bl, fun Dn S p y z a pa q d x7 x8 x9 x10 x11 x12 x13 fl x15 x16 x17 x18 x19 x21 x22 H dr hG hB hF k => ?_⟩
  obtain ⟨y1, y2, y3, y4⟩ := seven_ok y dr.my
  obtain ⟨ni, rl, fp⟩ := hG.bound dr (by decide)
  obtain ⟨so, sl⟩ := st_ok hG dr
  have zl := dr.zl
  obtain ⟨d2, g1, g2, g3, g4, g5⟩ := story_desk (d := d) (by rw [hG.ey]; exact y1) (by rw [hG.ey, hG.ef]; exact dr.zi) (by rw [hG.ef]; omega) (by rw [hG.ey, hG.ef]; exact fp)
  have es : storyS d2 = storyS d := by unfold storyS storyL; rw [g2, g3, g5]
  have so2 : StOk d2 := by
    unfold StOk at *
    rw [g2, g3, g5]
    exact so
  refine ⟨.str (storyS d), rfl, .str (storyS d), rfl, .inr ⟨.str (storyS d), .str _, .inr ⟨storyS d, rfl, sl, ?_⟩⟩⟩
  rw [g1]
  intro b pb H1 e1 nb npb db
  have hB1 := hB.ex e1
  have hF1 := hF.ex e1
  obtain ⟨σ, eσ⟩ : ∃ σ : L2.St, σ = sgM S p y z a d.now q x7 x8 x9 x10 x11 x12 x13 fl x15 x16 x17 x18 x19 (some (.str (storyS d))) (some (.ref b)) x22 := ⟨_, rfl⟩
  dsimp only [gName]
  show tSeq _ _ _ (sgM S p y z a d.now q x7 x8 x9 x10 x11 x12 x13 fl x15 x16 x17 x18 x19 (some (.str (storyS d))) (some (.ref b)) x22) H1
  rw [← eσ]
  have s4 : σ[4]? = some (some (.ref a)) := by rw [eσ]; rfl
  have s21 : σ[21]? = some (some (.ref b)) := by rw [eσ]; rfl
  have a5 : At K σ H1 5 (.str d.now) := ⟨.str d.now, by rw [eσ]; rfl, .str _⟩
  have a20 : At K σ H1 20 (.str (storyS d)) := ⟨.str (storyS d), by rw [eσ]; rfl, .str _⟩
  have a14 : At K σ H1 14 (.list (rowDd d.row)) := ⟨.ref fl, by rw [eσ]; rfl, hF1.dp⟩
  have st2 : EvD K (tMeth C "story" (spDStory K C) [] C8.E0 (tVar 21) tNil) σ H1 (.str (storyS d)) := es ▸ d_story db s21 so2
  have tx2 : EvD K (tMeth C "text" (spDText K C) [] C8.E0 (tVar 21) tNil) σ H1 (.str d.now) := g4 ▸ d_text db s21
  have rw2 : EvD K (tMeth C "row" (spDRow K C) [] C8.E0 (tVar 21) tNil) σ H1 (.tuple (rowDd d.row)) := by
    have := d_row (K := K) (i := 21) db s21 (by rw [g5]; omega)
    rw [g5] at this
    exact this
  refine Evl.q_when (b := false) (t_alike (K := K) (n := 3) (dd := .list [.str (storyS d), .str (storyS d), .str d.now, .tuple (rowDd d.row)]) (d_lst (ds_cons (d_story hB1.da s4 so) (ds_cons st2 (ds_cons tx2 (ds_cons rw2 ds_nil)))) (by show 4 ≤ 100000; decide)) (d_lst (ds_cons (d_var a20) (ds_cons (d_var a20) (ds_cons (d_var a5) (ds_cons (d_tupOf (d_var a14)) ds_nil)))) (by show 4 ≤ 100000; decide)) (okD_list (by show 4 ≤ 40000; decide) fun e he => ?_)) (fun h => nomatch h) fun _ G e => ?_
  · simp only [List.mem_cons, List.not_mem_nil, or_false] at he
    rcases he with rfl | rfl | rfl | rfl
    · exact okD_str 2 _
    · exact okD_str 2 _
    · exact okD_str 2 _
    · exact okD_row _ (by omega)
  · exact k G
def spLaw (K : PySem.W.Frag) (Ts : List NTab) : Sp := fun vs H Q _ => ∃ (a : Addr) (ns : List Int), vs = [.ref a] ∧ SqL K H a (ns.map V.int) ∧ TabsN Ts H ∧ ∀ H', Q (.bl true) H'
theorem body_is : defBody sLaw = [st 0, st 1, st 2, st 3, st 4, st 5, st 6, st 7, st 8, st 9, st 10, st 11, st 12, st 13, st 14] := by kernel_rfl
theorem ok_law {f0 : Addr} {fd0 : FuncData} (F0 : FunD K "law" "law" (defArgs sLaw) (defBody sLaw) (defScope sLaw) [] [] f0 fd0) (W : Wo P w K mg base C Ts) : FnOk P w K mg base C8.CX0 12 f0 fd0 ["script"] (spLaw K Ts) := by
  refine fnok_of F0 sc_law (fun vs H Q E ⟨a, ns, h, _⟩ => by rw [h]; rfl) fun f cdv A outer s H vs Q E hr h => ?_
  obtain ⟨a0, ns, rfl, hS, hT, q⟩ := h
  obtain ⟨t0, t1, t2, t3, p0, p1, p2, p3, k03⟩ := r03 (H0 := H) (E := E) (outer := outer) W hr
  obtain ⟨t4, p4, k4⟩ := r4 (H0 := H) (E := E) (outer := outer) W hr
  obtain ⟨t5, t6, p5, p6, k56⟩ := r56 (f := f) (cdv := cdv) (A := A) (s := s) (H0 := H) (E := E) (outer := outer) W hr
  obtain ⟨t7, p7, k7⟩ := r7 (H0 := H) (E := E) (outer := outer) W hr
  obtain ⟨t8, p8, k8⟩ := r8 (H0 := H) (E := E) (outer := outer) W hr
  obtain ⟨t9, p9, k9⟩ := r9 (H0 := H) (E := E) (outer := outer) W hr
  obtain ⟨t10, t11, p10, p11, k10⟩ := r10 (H0 := H) (E := E) (outer := outer) W hr
  obtain ⟨t12, t13, t14, p12, p13, p14, k12⟩ := r12 (H0 := H) (E := E) (outer := outer) W hr
  refine ⟨(tSeq t0 (tSeq t1 (tSeq t2 (tSeq t3 (tSeq t4 (tSeq t5 (tSeq t6 (tSeq t7 (tSeq t8 (tSeq t9 (tSeq t10 (tSeq t11 (tSeq t12 (tSeq t13 t14)))))))))))))), ?_, ?_⟩
  · rw [body_is]
    exact (pss_cons p0 (pss_cons p1 (pss_cons p2 (pss_cons p3 (pss_cons p4 (pss_cons p5 (pss_cons p6 (pss_cons p7 (pss_cons p8 (pss_cons p9 (pss_cons p10 (pss_cons p11 (pss_cons p12 (pss_cons p13 (pss_one p14)))))))))))))))
  refine k03 _ _ a0 ns H hS hT fun p y z b pb qq H1 dr hB => ?_
  refine k4 _ (a0, ns) p y z b pb qq H1 dr hB fun d x7 x8 x9 x10 x11 x12 x13 H2 hG hB => ?_
  refine k56 _ _ (a0, ns) p y z b pb qq d x7 x8 x9 x10 x11 x12 x13 H2 dr hG hB fun x13 fl x15 H3 hB hF => ?_
  refine k7 _ (a0, ns) p y z b pb qq d x7 x8 x9 x10 x11 x12 x13 fl x15 _ _ _ _ _ _ _ H3 dr hG hB hF fun H4 hB hF => ?_
  refine k8 _ (a0, ns) p y z b pb qq d x7 x8 x9 x10 x11 x12 x13 fl x15 _ _ _ _ _ _ _ H4 dr hB hF fun vr ms H5 hB hF hvr hml hms => ?_
  refine k9 _ (a0, ns) p y z b pb qq d x7 x8 x9 x10 x11 x12 x13 fl x15 _ _ _ vr _ _ _ ms H5 dr hG hB hF hvr hml hms fun H6 hB hF => ?_
  refine k10 _ _ (a0, ns) p y z b pb qq d x7 x8 x9 x10 x11 x12 x13 fl x15 _ _ _ _ _ _ _ H6 dr hG hB hF fun x16 x17 x18 H7 hB hF => ?_
  exact k12 _ (a0, ns) p y z b pb qq d x7 x8 x9 x10 x11 x12 x13 fl x15 x16 x17 x18 _ _ _ H7 dr hG hB hF q
end
end K27

set_option maxHeartbeats 4000000
set_option autoImplicit false
namespace K27
open PySem PySem.Spec PyProof.Rows L2 AsSort AsKit AsToo AsObj
open Evl (Ex Ev EvT EvA)
open LamX (ExtN TabB lamCx)
open NdefX (TabsN TabN NTab NScope nscope_by NF startF ncx)
/-! the classes TooLong and InvalidDesk: what the head must tell of them. -/
abbrev initS : Stmt := (clsB (top 6)).getD 0 noS
abbrev initA : Stmt := (clsB (top 11)).getD 0 noS
theorem too_fn {P : Program} {w : World} {K : PySem.W.Frag} {mg : Str → Option Value} {base : Heap} {CX : CXT} {C f cc cda : Addr} {dV kV doc pm ct oc : Value} {an od : Option Addr} {osl : Array (Option Value)} (F : SupF P K mg C f cc cda "TooLong.__init__")
    (lk : K.lookup f = some ⟨oc, od, .func (PySem.W.ksFn "__init__" "TooLong.__init__" (defArgs initS) (defBody initS) (defScope initS) dV kV doc pm an (.ref cda) ct cc), osl⟩) (hno : PySem.W.findIn K (.ref C) "most" = some none) :
    FnOk P w K mg base CX 1 f (PySem.W.ksFn "__init__" "TooLong.__init__" (defArgs initS) (defBody initS) (defScope initS) dV kV doc pm an (.ref cda) ct cc) ["self", "most"] (spToo K C) := by
  refine fnok_too (tj := fun _ => tC .non) F lk (nscope_by (by decide +kernel)) rfl rfl hno (fun A outer s H E m hm => ⟨_, pe_joined (.cons pe_str (.cons (pe_fmt (pv 1)) (.cons pe_str .nil))), fun e G Q q => ?_⟩) (fun _ => rfl)
  have hz := sizeLine_eq
  have hl := PyProof.Rows.int_text_len_1921 (i := m) (by omega)
  have e0 : Str.empty.length = 0 := by decide
  have e1 : ("more than " : Str).length = 10 := by decide
  have e2 : (" letters" : Str).length = 8 := by decide
  refine ⟨_, rfl, by rw [add_len, e0, e1]; omega, ?_⟩
  refine ⟨.int m, rfl, .inr ⟨m, rfl, by omega, _, rfl, by rw [add_len, add_len, e0, e1]; omega, ?_⟩⟩
  exact ⟨_, rfl, by rw [add_len, add_len, add_len, e0, e1, e2]; omega, q _⟩
theorem toA_fn {P : Program} {w : World} {K : PySem.W.Frag} {mg : Str → Option Value} {base : Heap} {CX : CXT} {C f cc cda : Addr} {dV kV doc pm ct oc : Value} {an od : Option Addr} {osl : Array (Option Value)} (F : AsToA.SupF P K mg C f cc cda "InvalidDesk.__init__")
    (lk : K.lookup f = some ⟨oc, od, .func (PySem.W.ksFn "__init__" "InvalidDesk.__init__" (defArgs initA) (defBody initA) (defScope initA) dV kV doc pm an (.ref cda) ct cc), osl⟩) (hno : PySem.W.findIn K (.ref C) "at" = some none) :
    FnOk P w K mg base CX 1 f (PySem.W.ksFn "__init__" "InvalidDesk.__init__" (defArgs initA) (defBody initA) (defScope initA) dV kV doc pm an (.ref cda) ct cc) ["self", "at"] (AsToA.spToA K C) := by
  refine AsToA.fnok_too (tj := fun _ => tC .non) F lk (nscope_by (by decide +kernel)) rfl rfl hno (fun A outer s H E m hm => ⟨_, pe_joined (.cons pe_str (.cons (pe_fmt (pv 1)) .nil)), fun e G Q q => ?_⟩) (fun _ => rfl)
  have hz := sizeLine_eq
  have hl := PyProof.Rows.int_text_len_1921 (i := m) (by omega)
  have e0 : Str.empty.length = 0 := by decide
  have e1 : ("cannot stand: line " : Str).length = 19 := by decide
  refine ⟨_, rfl, by rw [add_len, e0, e1]; omega, ?_⟩
  exact ⟨.int m, rfl, .inr ⟨m, rfl, by omega, _, rfl, by rw [add_len, add_len, e0, e1]; omega, q _⟩⟩
end K27

set_option maxHeartbeats 0
set_option autoImplicit false
namespace K27
open PySem PySem.Spec PyProof.Rows L2 AsSort AsKit AsToo AsObj
open Evl (Ex Ev EvT EvA)
open LamX (ExtN TabB lamCx)
open NdefX (TabsN TabN NTab NScope nscope_by NF startF ncx)
/-! the head: what the top leaves -/
def mkD (x : Str) (st : Stmt) : He.DefD := ⟨(x, none), x, x, defArgs st, defBody st, defScope st, [], []⟩
def mkM (m q : Str) (st : Stmt) : He.DefD := ⟨("Desk", some m), m, q, defArgs st, defBody st, defScope st, [], []⟩
def fn0 : List He.DefD := [mkD "is_integer" sIsInteger, mkD "is_letters" sIsLetters, mkD "is_text" sIsText, mkD "is_text_within" sIsTextWithin, mkD "is_kind" sIsKind, mkD "is_lot" sIsLot, mkD "check_letters" sCheckLetters, mkD "check_text" sCheckText, mkD "check_kinds" sCheckKinds, mkD "check_mender" sCheckMender, mkD "text_behind" sTextBehind, mkD "is_deed_on" sIsDeedOn, mkD "check_deeds_of" sCheckDeedsOf, mkD "done" sDone, mkD "next_deed" sNextDeed, mkD "mending_of" sMendingOf, mkD "printed_side" sPrintedSide, mkD "is_row" sIsRow, mkD "is_reader" sIsReader, mkD "stand_from" sStandFrom, mkD "stand_behind" sStandBehind, mkD "check_desk_readers" sCheckDR, mkD "told_text" sToldText, mkD "word_behind" sWordBehind, mkD "begun_desk" sBegun, mkD "told_deed" sToldDeed, mkD "desk_of" sDeskOf, mkD "check_letters_and_mender" sCheckLM]
def fn1 : List He.DefD := [mkD "mended" sMended, mkD "mending" sLMending, mkD "_law_taken" sTaken, mkD "_law_pick" sPick, mkD "_law_alike" sAlike, mkD "_law_letters" sLetters, mkD "_law_text" sText, mkD "_law_kinds" sKinds, mkD "_law_reader" sReader, mkD "_law_led" sLed, mkD "_law_says" sSays, mkD "_law_deeds" sDeedsL, mkD "_law_behind" sLBehind, mkD "_law_leads" sLeads, mkD "_law_mender" sMender, mkD "_law_shown" sShown, mkD "law" sLaw, mkM "__init__" "Desk.__init__" (dm 0), mkM "add_step" "Desk.add_step" (dm 1), mkM "copy" "Desk.copy" (dm 2), mkM "mend" "Desk.mend" (dm 3), mkM "undo" "Desk.undo" (dm 4), mkM "text" "Desk.text" (dm 5), mkM "row" "Desk.row" (dm 6), mkM "verdicts" "Desk.verdicts" (dm 7), mkM "story" "Desk.story" (dm 8)]
def fn : List He.DefD := fn0 ++ fn1
def fa0 : List He.Fa := [.glo "is_integer", .glo "is_letters", .glo "is_text", .glo "is_text_within", .glo "is_kind", .glo "is_lot", .glo "check_letters", .glo "check_text", .glo "check_kinds", .glo "check_mender", .glo "text_behind", .glo "is_deed_on", .glo "check_deeds_of", .glo "done", .glo "next_deed", .glo "mending_of", .glo "printed_side", .glo "is_row", .glo "is_reader", .glo "stand_from", .glo "stand_behind", .glo "check_desk_readers", .glo "told_text", .glo "word_behind", .glo "begun_desk", .glo "told_deed", .glo "desk_of", .glo "check_letters_and_mender"]
def fa1 : List He.Fa := [.glo "mended", .glo "mending", .glo "_law_taken", .glo "_law_pick", .glo "_law_alike", .glo "_law_letters", .glo "_law_text", .glo "_law_kinds", .glo "_law_reader", .glo "_law_led", .glo "_law_says", .glo "_law_deeds", .glo "_law_behind", .glo "_law_leads", .glo "_law_mender", .glo "_law_shown", .glo "law", .free "isinstance", .free "int", .free "bool", .free "str", .free "tuple", .free "list", .free "dict", .free "len", .free "range", .free "all", .free "any"]
def fa2 : List He.Fa := [.free "set", .free "sorted", .free "super", .free "max", .int "MOST_LETTERS" 4, .int "LONGEST_TEXT" 40, .int "LONGEST_LEFT" 3, .int "LONGEST_RIGHT" 1, .int "MOST_KINDS" 12, .int "MOST_STANDS" 200, .glo "BadLetters", .glo "BadText", .glo "BadKinds", .glo "BadDeed", .glo "TooLong", .glo "BadMender", .glo "NothingDone", .glo "BadReaders", .glo "NotText", .glo "InvalidDesk", .glo "ScribeError", .glo "Desk", .exc "BadLetters", .exc "BadText", .exc "BadKinds", .exc "BadDeed", .exc "BadMender", .exc "NothingDone"]
def fa3 : List He.Fa := [.exc "BadReaders", .exc "NotText", .noat "TooLong" "most", .noat "InvalidDesk" "at", .code ("TooLong", some "__init__") "TooLong.__init__", .code ("InvalidDesk", some "__init__") "InvalidDesk.__init__", .cls "Desk", .noat "Desk" "letters", .noat "Desk" "first", .noat "Desk" "now", .noat "Desk" "steps", .mkr "Desk", .meth "Desk" "add_step", .meth "Desk" "copy", .meth "Desk" "mend", .meth "Desk" "undo", .meth "Desk" "text", .meth "Desk" "row", .meth "Desk" "verdicts", .meth "Desk" "story"]
def fa : List He.Fa := fa0 ++ fa1 ++ fa2 ++ fa3
def loose0 : List Str := ["ScribeError", "BadLetters", "BadText", "BadKinds", "BadDeed", "TooLong", "NotText", "BadMender", "BadReaders", "NothingDone", "InvalidDesk", "MOST_LETTERS", "LONGEST_TEXT", "LONGEST_LEFT", "LONGEST_RIGHT", "MOST_KINDS", "is_integer", "is_letters", "is_text", "is_text_within", "is_kind", "is_lot", "check_letters", "check_text", "check_kinds", "check_mender", "text_behind", "is_deed_on"]
def loose1 : List Str := ["check_deeds_of", "done", "next_deed", "mending_of", "check_letters_and_mender", "mended", "mending", "printed_side", "MOST_STANDS", "is_row", "is_reader", "stand_from", "stand_behind", "Desk", "check_desk_readers", "told_text", "word_behind", "begun_desk", "told_deed", "desk_of", "_law_taken", "_law_pick", "_law_alike", "_law_letters", "_law_text", "_law_kinds", "_law_reader", "_law_led"]
def loose2 : List Str := ["_law_says", "_law_deeds", "_law_behind", "_law_leads", "_law_mender", "_law_shown"]
def loose : List Str := loose0 ++ loose1 ++ loose2
abbrev Rw : PySem.W.OpenRow := PySem.W.OpenLaw.row PySem.Challenge.rw_anyscribe_k27_whole_desks
abbrev Pg : Program := PySem.Challenge.rw_anyscribe_k27_whole_desks.prog
def tf : List He.Defn := [("_law_deeds", none), ("next_deed", none)]
/-! the classes with a field, their __init__, the cell and the code object of that -/
abbrev pI (x : Str) : Str × Option Str := (x, some "__init__")
def cM (K : PySem.W.Frag) (x : Str) : Addr := He.ga K x
def fI (K : PySem.W.Frag) (x : Str) : Addr := He.fAd K (pI x)
def cellOf (K : PySem.W.Frag) (x : Str) : Addr := match K.lookup (fI K x) with
  | some ⟨_, _, .func fd, _⟩ => (match fd.closure with
    | [q] => q.2
    | _ => 0)
  | _ => 0
abbrev FnZ : Type := Option (Str × Str × Arguments × FuncBody × Scope × Addr × List Str × Value × Addr)
def fnZ (K : PySem.W.Frag) (x : Str) : FnZ := match K.lookup (fI K x) with
  | some ⟨_, _, .func fd, _⟩ => some (fd.name, fd.qualname, fd.params, fd.body, fd.scope, fd.globals, fd.closure.map (·.1), fd.defaults, fd.builtins)
  | _ => none
def valZ (q : Str) (st : Stmt) : FnZ := some ("__init__", q, defArgs st, .stmts (defBody st), defScope st, mainGlobals, ["__class__"], .none, builtinsNs)
def oexB (K : PySem.W.Frag) (C : Addr) : Bool := (match K.lookup C with
  | some ⟨.type c, _, .cls cd, sl⟩ => decide (c = "type") && (match cd.mro, sl.toList with
    | .ref C' :: bm, [_, _, _, _, some (.builtin n), _] => decide (C' = C) && (decide (n = "ValueError.__new__") && (!cd.hasDel && (cd.hasDict && PySem.HandSPX.refsVE bm)))
    | _, _ => false)
  | _ => false) && (He.eqO (PySem.W.findIn K (.ref C) "__setattr__") (some (some (.builtin "object.__setattr__"))) && (decide (PySem.W.subIn K (.ref C) (.type "BaseException") = some true) && (decide (PySem.W.typeIn K (.ref C) = some (.type "type")) && PySem.W.keepIn K (.ref C))))
theorem oexB_ok {K : PySem.W.Frag} {C : Addr} (h : oexB K C = true) : OexC K C := by
  unfold oexB at h
  obtain ⟨h1, h⟩ := He.ba h
  obtain ⟨h2, h⟩ := He.ba h
  obtain ⟨h3, h⟩ := He.ba h
  obtain ⟨h4, h5⟩ := He.ba h
  refine ⟨?_, He.eqO_ok h2, of_decide_eq_true h3, of_decide_eq_true h4, h5⟩
  split at h1
  · rename_i c dd cd sl ho
    obtain ⟨hc, h1⟩ := He.ba h1
    split at h1
    · rename_i C' bm k0 k1 k2 k3 n k5 hm hs
      obtain ⟨q1, h1⟩ := He.ba h1
      obtain ⟨q2, h1⟩ := He.ba h1
      obtain ⟨q3, h1⟩ := He.ba h1
      obtain ⟨q4, q5⟩ := He.ba h1
      have e1 := of_decide_eq_true q1
      have e2 := of_decide_eq_true q2
      have e0 := of_decide_eq_true hc
      obtain ⟨nm, bs, mro, ns, qn, hd, sn, sub, ab, col, del⟩ := cd
      dsimp only at hm q3 q4
      have e3 : del = false := by simpa using q3
      have hsl : sl = #[k0, k1, k2, k3, some (.builtin n), k5] := by
        obtain ⟨l⟩ := sl
        simp only at hs
        rw [hs]
      subst e0 e1 e2 hm q4 e3 hsl
      exact ⟨nm, qn, ns, bs, bm, sn, sub, ab, col, dd, k0, k1, k2, k3, k5, ho, q5⟩
    · cases h1
  · cases h1
def fileB (K : PySem.W.Frag) (c : Addr) : Bool := match K.lookup c with
  | some ⟨_, _, .fields vs, _⟩ => (match (vs[2]? : Option Value) with
    | some (Value.str file _) => (Pg.main.file : Str) == file
    | _ => false)
  | _ => false
theorem fileB_ok {K : PySem.W.Frag} {c : Addr} (h : fileB K c = true) : ∃ (ccl : Value) (cdd : Option Addr) (vs : Array Value) (ccs : Array (Option Value)) (file : Str) (tf : Tok), K.lookup c = some ⟨ccl, cdd, .fields vs, ccs⟩ ∧ vs[2]? = some (.str file tf) ∧ ((Pg.main.file : Str) == file) = true := by
  unfold fileB at h
  split at h
  · rename_i ccl cdd vs ccs ho
    split at h
    · rename_i file tf hv
      exact ⟨ccl, cdd, vs, ccs, file, tf, ho, hv, h⟩
    · cases h
  · cases h
def cellB (K : PySem.W.Frag) (c C : Addr) : Bool := match K.lookup c with
  | some ⟨_, _, .cell (some (.ref D)), _⟩ => decide (D = C)
  | _ => false
theorem cellB_ok {K : PySem.W.Frag} {c C : Addr} (h : cellB K c C = true) : ∃ (cl : Value) (cld : Option Addr) (csl : Array (Option Value)), K.lookup c = some ⟨cl, cld, .cell (some (.ref C)), csl⟩ := by
  unfold cellB at h
  split at h
  · rename_i cl cld D csl ho
    have e := of_decide_eq_true h
    subst e
    exact ⟨cl, cld, csl, ho⟩
  · cases h
def someB (K : PySem.W.Frag) (C : Addr) : Bool := (PySem.W.clsIn K C).isSome
def ex1 (K : PySem.W.Frag) (x q : Str) : Bool := oexB K (cM K x) && (PySem.W.codeIn K (.ref (He.codeOf K (pI x))) q && (fileB K (He.codeOf K (pI x)) && (cellB K (cellOf K x) (cM K x) && someB K (cM K x))))
def ex2 (K : PySem.W.Frag) (x : Str) : Bool := decide (PySem.W.mroIn K (cM K x) (.ref (cM K x)) = some true) && (He.eqO (PySem.W.ks_superIn K (cM K x) (cM K x) "__init__") (some (some (.builtin "ValueError.__init__"))) && (He.eqO (PySem.W.nsIn K cStatics "thirdparty.any") (some none) && decide (PySem.W.subIn K (.ref (cM K x)) (.type "ValueError") = some true)))
def ex3 (K : PySem.W.Frag) (x : Str) : Bool := He.eqO (PySem.W.findIn K (.ref (cM K x)) "__init__") (some (some (.ref (fI K x)))) && (decide (PySem.W.typeIn K (.ref (fI K x)) = some (.type "function")))
def exC (K : PySem.W.Frag) (x q : Str) : Bool := ex1 K x q && (ex2 K x && ex3 K x)
def exB (K : PySem.W.Frag) : Bool := exC K "TooLong" "TooLong.__init__" && (exC K "InvalidDesk" "InvalidDesk.__init__" && decide ((He.cT K ("_law_deeds", none)).2 ≠ (He.cT K ("next_deed", none)).2))
/-! the hook -/
def frY (g : Addr → Option Obj) : PySem.W.Frag := He.frT g (cStatics :: He.asD g 6)
abbrev AlY : Type := ((He.AlT × FnZ) × FnZ) × Bool
def obsY (g : Addr → Option Obj) : AlY := (((He.obsT fa fn [] (frY g), fnZ (frY g) "TooLong"), fnZ (frY g) "InvalidDesk"), exB (frY g) && He.tabsB g tf (frY g))
def valY (w : World) : AlY := (((He.valT fn [] w, valZ "TooLong.__init__" initS), valZ "InvalidDesk.__init__" initA), true)
structure SaysY (w : World) (h : Heap) (K : PySem.W.Frag) : Prop where
  t : He.SaysT fa fn [] w K
  z : fnZ K "TooLong" = valZ "TooLong.__init__" initS
  z2 : fnZ K "InvalidDesk" = valZ "InvalidDesk.__init__" initA
  more : exB K = true
  hd : ∀ p ∈ tf, PySem.W.codeHdIn K (He.cT K p).1 (He.cT K p).2 = true
  out : ∀ p ∈ tf, K.lookup (He.cT K p).2 = none
  empty : ∀ p ∈ tf, h.get? (He.cT K p).2 = some { cls := .none, data := .fields #[] }
theorem saysY_of {w : World} {h : Heap} (e : obsY h.get? = valY w) : SaysY w h (frY h.get?) := by
  have e1 : He.obsT fa fn [] (frY h.get?) = He.valT fn [] w := congrArg (fun z : AlY => z.1.1.1) e
  have e2 : fnZ (frY h.get?) "TooLong" = valZ "TooLong.__init__" initS := congrArg (fun z : AlY => z.1.1.2) e
  have e22 : fnZ (frY h.get?) "InvalidDesk" = valZ "InvalidDesk.__init__" initA := congrArg (fun z : AlY => z.1.2) e
  have e3 : (exB (frY h.get?) && He.tabsB h.get? tf (frY h.get?)) = true := congrArg (fun z : AlY => z.2) e
  obtain ⟨b1, b2⟩ := He.ba e3
  have look : ∀ p ∈ tf, ∃ o, h.get? (He.cT (frY h.get?) p).2 = some o ∧ He.emptyTab o = true := fun p hp => by
    obtain ⟨_, u⟩ := He.ba (List.all_eq_true.mp b2 p hp)
    split at u
    · rename_i o ho
      exact ⟨o, ho, u⟩
    · cases u
  refine ⟨e1, e2, e22, b1, fun p hp => (He.ba (List.all_eq_true.mp b2 p hp)).1, fun p hp => ?_, fun p hp => ?_⟩
  · obtain ⟨o, ho, u⟩ := look p hp
    exact He.frT_none ho u
  · obtain ⟨o, ho, u⟩ := look p hp
    rw [ho, He.emptyTab_eq u]
def hk : PySem.W.Hook where
  α := AlY
  obs := fun s => obsY s.heap.get?
  val := fun w => valY w
  says := fun w h => ∃ K : PySem.W.Frag, K.In h ∧ SaysY w h K
  of := fun _ _ e => ⟨_, He.frT_in, saysY_of e⟩
  keeps := fun _ _ _ ⟨K, hK, c⟩ k => ⟨K, PySem.W.Frag.In.keeps hK k, ⟨c.t, c.z, c.z2, c.more, c.hd, c.out, fun p hp => k _ _ (c.empty p hp)⟩⟩
def ob (s : PySem.W.SharedT) : AlY := obsY (HandSHeadRun.getT s)
theorem ob_eq (s : PySem.W.SharedT) : ob s = hk.obs s.abs := by
  have e : HandSHeadRun.getT s = s.abs.heap.get? := funext (HandSHeadRun.getT_eq s)
  show obsY (HandSHeadRun.getT s) = obsY s.abs.heap.get?
  rw [e]
theorem run (w : World) : HandSHeadRun.RunEq Rw (PySem.W.view Rw.prog [70]) hk ob 9000 loose w := by
  intro os
  kernel_rfl
end K27

set_option maxHeartbeats 0
set_option autoImplicit false
namespace K27
open PySem PySem.Spec PyProof.Rows L2 AsSort AsKit AsToo AsObj
open Evl (Ex Ev EvT EvA)
open LamX (ExtN TabB lamCx)
open NdefX (TabsN TabN NTab NScope nscope_by NF startF ncx)
section
variable {w : World} {K : PySem.W.Frag} {mg : Str → Option Value} {h : Heap}
theorem df_of (X : K.In h) (G : h.Ns mainGlobals mg) (c : He.SaysD fa fn K) (x : Str) (st : Stmt) (h1 : mkD x st ∈ fn) (h2 : He.Fa.glo x ∈ fa) : Df K mg x st := by
  obtain ⟨fd, F⟩ := c.defs h1
  exact ⟨_, fd, F, He.glo_ok X G (c.facts h2)⟩
theorem bl_of (X : K.In h) (G : h.Ns mainGlobals mg) (c : He.SaysD fa fn K) : Bl mg := fun x hx => by
  have h2 : ∀ x ∈ blts, He.Fa.free x ∈ fa := by
    intro x hx
    simp only [blts, List.mem_cons, List.not_mem_nil, or_false] at hx
    rcases hx with rfl | rfl | rfl | rfl | rfl | rfl | rfl | rfl | rfl | rfl | rfl | rfl | rfl
    · exact (List.mem_of_getElem? (i := 45) rfl)
    · exact (List.mem_of_getElem? (i := 46) rfl)
    · exact (List.mem_of_getElem? (i := 47) rfl)
    · exact (List.mem_of_getElem? (i := 48) rfl)
    · exact (List.mem_of_getElem? (i := 49) rfl)
    · exact (List.mem_of_getElem? (i := 50) rfl)
    · exact (List.mem_of_getElem? (i := 51) rfl)
    · exact (List.mem_of_getElem? (i := 52) rfl)
    · exact (List.mem_of_getElem? (i := 53) rfl)
    · exact (List.mem_of_getElem? (i := 54) rfl)
    · exact (List.mem_of_getElem? (i := 55) rfl)
    · exact (List.mem_of_getElem? (i := 56) rfl)
    · exact (List.mem_of_getElem? (i := 57) rfl)
  exact He.free_ok X G (c.facts (h2 x hx))
theorem gn_of (X : K.In h) (G : h.Ns mainGlobals mg) (c : He.SaysD fa fn K) (x : Str) (n : Int) (h2 : He.Fa.int x n ∈ fa) : Gn mg x n := by
  obtain ⟨t, e⟩ := He.int_ok X G (c.facts h2)
  exact ⟨_, e, ⟨t, rfl⟩⟩
theorem dfc_of (X : K.In h) (G : h.Ns mainGlobals mg) (c : He.SaysD fa fn K) (x : Str) (st : Stmt) (h1 : mkD x st ∈ fn) (h2 : He.Fa.glo x ∈ fa) : Dfc K mg x st (He.codeOf K (x, none)) := by
  obtain ⟨fd, F⟩ := c.defs h1
  refine ⟨_, fd, F, He.glo_ok X G (c.facts h2), ?_⟩
  obtain ⟨oc, od, dV, kV, doc, pm, an, cdv, ct, osl, rfl, lk, hcd, _, _⟩ := F.ex
  obtain ⟨c0, rfl⟩ := He.codeIn_ref hcd
  exact congrArg Value.ref (He.codeOf_eq (p := (x, none)) lk rfl).symm
theorem ec_of (X : K.In h) (G : h.Ns mainGlobals mg) (c : He.SaysD fa fn K) (x : Str) (h1 : He.Fa.glo x ∈ fa) (h2 : He.Fa.exc x ∈ fa) : Ec K mg x (He.ga K x) := by
  obtain ⟨a1, a2, a3, a4⟩ := He.exc_ok (c.facts h2)
  exact ⟨He.glo_ok X G (c.facts h1), a1, a2, a3, a4⟩
theorem too_lk {x q : Str} {st : Stmt} (z : fnZ K x = valZ q st) (hcode : (He.Fa.code (pI x) q).ok K = true) : ∃ (oc : Value) (od : Option Addr) (osl : Array (Option Value)) (kV doc pm ct : Value) (an : Option Addr),
    K.lookup (fI K x) = some ⟨oc, od, .func (PySem.W.ksFn "__init__" q (defArgs st) (defBody st) (defScope st) .none kV doc pm an (.ref (He.codeOf K (pI x))) ct (cellOf K x)), osl⟩ := by
  have c2 : (match K.lookup (fI K x) with
    | some ⟨_, _, .func fd, _⟩ => PySem.W.codeIn K fd.code q
    | _ => false) = true := hcode
  unfold fnZ at z
  cases qq : K.lookup (fI K x) with
  | none =>
    rw [qq] at c2
    cases c2
  | some o =>
    obtain ⟨oc, od, dt, osl⟩ := o
    rw [qq] at c2 z
    cases dt with
    | func fd =>
      obtain ⟨n1, n2, n3, n4, n5, n6, n7, n8, n9, n10, n11, n12, n13, n14, n15⟩ := fd
      have c3 : PySem.W.codeIn K n13 q = true := c2
      obtain ⟨cda, rfl⟩ := He.codeIn_ref c3
      have ec : He.codeOf K (pI x) = cda := He.codeOf_eq (p := pI x) qq rfl
      have e2 : (some (n1, n2, n3, n4, n5, n6, n7.map (·.1), n8, n15) : FnZ) = some (("__init__" : Str), q, defArgs st, FuncBody.stmts (defBody st), defScope st, mainGlobals, [("__class__" : Str)], Value.none, builtinsNs) := z
      simp only [Option.some.injEq, Prod.mk.injEq] at e2
      obtain ⟨h1, h2, h3, h4, h5, h6, h7, h8, h9⟩ := e2
      match n7, h7, qq with
      | [], h7, _ => exact absurd (congrArg List.length h7) (by simp)
      | _ :: _ :: _, h7, _ => exact absurd (congrArg List.length h7) (by simp)
      | [(a, cc)], h7, qq =>
        have ha : a = "__class__" := (List.cons.inj h7).1
        have el : cellOf K x = cc := by
          unfold cellOf
          rw [qq]
        subst h1 h2 h3 h4 h5 h6 h8 h9 ha
        rw [ec, el]
        exact ⟨oc, od, osl, n9, n10, n11, n14, n12, rfl⟩
    | _ => cases c2
theorem et_of {base : Heap} (X : K.In h) (G : h.Ns mainGlobals mg) (c : He.SaysD fa fn K) (z : fnZ K "TooLong" = valZ "TooLong.__init__" initS) (m : exC K "TooLong" "TooLong.__init__" = true) : Et Pg w K mg base "TooLong" (cM K "TooLong") := by
  obtain ⟨m1, m⟩ := He.ba (show (ex1 K "TooLong" "TooLong.__init__" && (ex2 K "TooLong" && ex3 K "TooLong")) = true from m)
  obtain ⟨m2, m3⟩ := He.ba m
  obtain ⟨a1, m1⟩ := He.ba (show (oexB K (cM K "TooLong") && (PySem.W.codeIn K (.ref (He.codeOf K (pI "TooLong"))) "TooLong.__init__" && (fileB K (He.codeOf K (pI "TooLong")) && (cellB K (cellOf K "TooLong") (cM K "TooLong") && someB K (cM K "TooLong"))))) = true from m1)
  obtain ⟨a2, m1⟩ := He.ba m1
  obtain ⟨a3, m1⟩ := He.ba m1
  obtain ⟨a4, a5⟩ := He.ba m1
  obtain ⟨b1, m2⟩ := He.ba (show (decide (PySem.W.mroIn K (cM K "TooLong") (.ref (cM K "TooLong")) = some true) && (He.eqO (PySem.W.ks_superIn K (cM K "TooLong") (cM K "TooLong") "__init__") (some (some (.builtin "ValueError.__init__"))) && (He.eqO (PySem.W.nsIn K cStatics "thirdparty.any") (some none) && decide (PySem.W.subIn K (.ref (cM K "TooLong")) (.type "ValueError") = some true)))) = true from m2)
  obtain ⟨b2, m2⟩ := He.ba m2
  obtain ⟨b3, b4⟩ := He.ba m2
  obtain ⟨c1, c2⟩ := He.ba (show (He.eqO (PySem.W.findIn K (.ref (cM K "TooLong")) "__init__") (some (some (.ref (fI K "TooLong")))) && (decide (PySem.W.typeIn K (.ref (fI K "TooLong")) = some (.type "function")))) = true from m3)
  have ox := oexB_ok a1
  have sf : SupF Pg K mg (cM K "TooLong") (fI K "TooLong") (cellOf K "TooLong") (He.codeOf K (pI "TooLong")) "TooLong.__init__" := ⟨a2, fileB_ok a3, cellB_ok a4, Option.isSome_iff_exists.mp a5, of_decide_eq_true b1, by decide +kernel, He.eqO_ok b2, He.eqO_ok b3, of_decide_eq_true b4, (He.free_ok X G (c.facts (List.mem_of_getElem? (i := 58) rfl))), ox⟩
  obtain ⟨oc, od, osl, kV, doc, pm, ct, an, lk⟩ := too_lk z (c.facts (List.mem_of_getElem? (i := 88) rfl))
  exact ⟨(He.glo_ok X G (c.facts (List.mem_of_getElem? (i := 70) rfl))), ox, fI K "TooLong", _, He.eqO_ok c1, of_decide_eq_true c2, too_fn sf lk (He.noat_ok (c.facts (List.mem_of_getElem? (i := 86) rfl))), .all fun us hl => match us, hl with | [_, _], _ => rfl⟩
theorem etA_of {base : Heap} (X : K.In h) (G : h.Ns mainGlobals mg) (c : He.SaysD fa fn K) (z : fnZ K "InvalidDesk" = valZ "InvalidDesk.__init__" initA) (m : exC K "InvalidDesk" "InvalidDesk.__init__" = true) : AsToA.Et Pg w K mg base "InvalidDesk" (cM K "InvalidDesk") := by
  obtain ⟨m1, m⟩ := He.ba (show (ex1 K "InvalidDesk" "InvalidDesk.__init__" && (ex2 K "InvalidDesk" && ex3 K "InvalidDesk")) = true from m)
  obtain ⟨m2, m3⟩ := He.ba m
  obtain ⟨a1, m1⟩ := He.ba (show (oexB K (cM K "InvalidDesk") && (PySem.W.codeIn K (.ref (He.codeOf K (pI "InvalidDesk"))) "InvalidDesk.__init__" && (fileB K (He.codeOf K (pI "InvalidDesk")) && (cellB K (cellOf K "InvalidDesk") (cM K "InvalidDesk") && someB K (cM K "InvalidDesk"))))) = true from m1)
  obtain ⟨a2, m1⟩ := He.ba m1
  obtain ⟨a3, m1⟩ := He.ba m1
  obtain ⟨a4, a5⟩ := He.ba m1
  obtain ⟨b1, m2⟩ := He.ba (show (decide (PySem.W.mroIn K (cM K "InvalidDesk") (.ref (cM K "InvalidDesk")) = some true) && (He.eqO (PySem.W.ks_superIn K (cM K "InvalidDesk") (cM K "InvalidDesk") "__init__") (some (some (.builtin "ValueError.__init__"))) && (He.eqO (PySem.W.nsIn K cStatics "thirdparty.any") (some none) && decide (PySem.W.subIn K (.ref (cM K "InvalidDesk")) (.type "ValueError") = some true)))) = true from m2)
  obtain ⟨b2, m2⟩ := He.ba m2
  obtain ⟨b3, b4⟩ := He.ba m2
  obtain ⟨c1, c2⟩ := He.ba (show (He.eqO (PySem.W.findIn K (.ref (cM K "InvalidDesk")) "__init__") (some (some (.ref (fI K "InvalidDesk")))) && (decide (PySem.W.typeIn K (.ref (fI K "InvalidDesk")) = some (.type "function")))) = true from m3)
  have ox := oexB_ok a1
  have sf : AsToA.SupF Pg K mg (cM K "InvalidDesk") (fI K "InvalidDesk") (cellOf K "InvalidDesk") (He.codeOf K (pI "InvalidDesk")) "InvalidDesk.__init__" := ⟨a2, fileB_ok a3, cellB_ok a4, Option.isSome_iff_exists.mp a5, of_decide_eq_true b1, by decide +kernel, He.eqO_ok b2, He.eqO_ok b3, of_decide_eq_true b4, (He.free_ok X G (c.facts (List.mem_of_getElem? (i := 58) rfl))), ox⟩
  obtain ⟨oc, od, osl, kV, doc, pm, ct, an, lk⟩ := too_lk z (c.facts (List.mem_of_getElem? (i := 89) rfl))
  exact ⟨(He.glo_ok X G (c.facts (List.mem_of_getElem? (i := 75) rfl))), ox, fI K "InvalidDesk", _, He.eqO_ok c1, of_decide_eq_true c2, toA_fn sf lk (He.noat_ok (c.facts (List.mem_of_getElem? (i := 87) rfl))), .all fun us hl => match us, hl with | [_, _], _ => rfl⟩
theorem dkc_of (c : He.SaysD fa fn K) : DkC K (He.ga K "Desk") := ⟨He.cls_ok (c.facts (List.mem_of_getElem? (i := 90) rfl)), He.noat_ok (c.facts (List.mem_of_getElem? (i := 91) rfl)), He.noat_ok (c.facts (List.mem_of_getElem? (i := 92) rfl)), He.noat_ok (c.facts (List.mem_of_getElem? (i := 93) rfl)), He.noat_ok (c.facts (List.mem_of_getElem? (i := 94) rfl))⟩
theorem dm_of (c : He.SaysD fa fn K) (m q : Str) (st : Stmt) (h1 : mkM m q st ∈ fn) (h2 : He.Fa.meth "Desk" m ∈ fa) : DfM K (He.ga K "Desk") m q st := by
  obtain ⟨fd, F⟩ := c.defs h1
  exact ⟨_, fd, F, He.meth_ok (c.facts h2)⟩
theorem di_of (c : He.SaysD fa fn K) : DfI K (He.ga K "Desk") "Desk.__init__" (dm 0) := by
  obtain ⟨fd, F⟩ := c.defs (d := mkM "__init__" "Desk.__init__" (dm 0)) (List.mem_of_getElem? (i := 45) rfl)
  exact ⟨_, fd, F, He.mkr_ok (c.facts (List.mem_of_getElem? (i := 95) rfl))⟩
theorem wo_of {base : Heap} (X : K.In base) (G : base.Ns mainGlobals mg) (c : He.SaysD fa fn K) (z : fnZ K "TooLong" = valZ "TooLong.__init__" initS) (z2 : fnZ K "InvalidDesk" = valZ "InvalidDesk.__init__" initA) (m1 : exC K "TooLong" "TooLong.__init__" = true) (m2 : exC K "InvalidDesk" "InvalidDesk.__init__" = true) {T0 T1 : Addr} (hn : T0 ≠ T1) (TB0 : TabB base mg (He.codeOf K ("_law_deeds", none)) T0) (TB1 : TabB base mg (He.codeOf K ("next_deed", none)) T1) :
    Wo Pg w K mg base (He.ga K "Desk") [(T0, fun _ _ => lamQ), (T1, fun _ _ => lamQN)] := by
  have hb : Bl mg := bl_of X G c
  have u0 : ∀ p ∈ ([(T0, fun _ _ => lamQ), (T1, fun _ _ => lamQN)] : List NTab), p.1 = T0 → p.2 = fun _ _ => lamQ := fun p hp e => by
    rcases List.mem_cons.mp hp with rfl | hp
    · rfl
    · rw [List.mem_singleton.mp hp] at e
      exact absurd e.symm hn
  have u1 : ∀ p ∈ ([(T0, fun _ _ => lamQ), (T1, fun _ _ => lamQN)] : List NTab), p.1 = T1 → p.2 = fun _ _ => lamQN := fun p hp e => by
    rcases List.mem_cons.mp hp with rfl | hp
    · exact absurd e hn
    · rw [List.mem_singleton.mp hp]
  have et : Et Pg w K mg base "TooLong" (cM K "TooLong") := et_of X G c z m1
  have eta : AsToA.Et Pg w K mg base "InvalidDesk" (cM K "InvalidDesk") := etA_of X G c z2 m2
  have dc := dkc_of c
  have i1 := c_is_integer (P := Pg) (w := w) (base := base) (df_of X G c "is_integer" sIsInteger (List.mem_of_getElem? (i := 0) rfl) (List.mem_of_getElem? (i := 0) rfl)) hb
  have i2 := c_is_letters (P := Pg) (w := w) (base := base) (df_of X G c "is_letters" sIsLetters (List.mem_of_getElem? (i := 1) rfl) (List.mem_of_getElem? (i := 1) rfl)) hb (gn_of X G c "MOST_LETTERS" 4 (List.mem_of_getElem? (i := 60) rfl))
  have i3 := c_is_text (P := Pg) (w := w) (base := base) (df_of X G c "is_text" sIsText (List.mem_of_getElem? (i := 2) rfl) (List.mem_of_getElem? (i := 2) rfl)) hb
  have i4 := c_is_text_within (df_of X G c "is_text_within" sIsTextWithin (List.mem_of_getElem? (i := 3) rfl) (List.mem_of_getElem? (i := 3) rfl)) hb i3
  have i5 := c_is_kind (df_of X G c "is_kind" sIsKind (List.mem_of_getElem? (i := 4) rfl) (List.mem_of_getElem? (i := 4) rfl)) hb (gn_of X G c "LONGEST_LEFT" 3 (List.mem_of_getElem? (i := 62) rfl)) (gn_of X G c "LONGEST_RIGHT" 1 (List.mem_of_getElem? (i := 63) rfl)) i4
  have i6 := c_is_lot (df_of X G c "is_lot" sIsLot (List.mem_of_getElem? (i := 5) rfl) (List.mem_of_getElem? (i := 5) rfl)) hb (gn_of X G c "MOST_KINDS" 12 (List.mem_of_getElem? (i := 64) rfl)) i5
  have x1 := x_check_letters (df_of X G c "check_letters" sCheckLetters (List.mem_of_getElem? (i := 6) rfl) (List.mem_of_getElem? (i := 6) rfl)) (ec_of X G c "BadLetters" (List.mem_of_getElem? (i := 66) rfl) (List.mem_of_getElem? (i := 78) rfl)) i2
  have x2 := x_check_text (df_of X G c "check_text" sCheckText (List.mem_of_getElem? (i := 7) rfl) (List.mem_of_getElem? (i := 7) rfl)) (ec_of X G c "BadText" (List.mem_of_getElem? (i := 67) rfl) (List.mem_of_getElem? (i := 79) rfl)) (gn_of X G c "LONGEST_TEXT" 40 (List.mem_of_getElem? (i := 61) rfl)) i4
  have x3 := x_check_kinds (df_of X G c "check_kinds" sCheckKinds (List.mem_of_getElem? (i := 8) rfl) (List.mem_of_getElem? (i := 8) rfl)) (ec_of X G c "BadKinds" (List.mem_of_getElem? (i := 68) rfl) (List.mem_of_getElem? (i := 80) rfl)) i6
  have y1 := c_check_letters (df_of X G c "check_letters" sCheckLetters (List.mem_of_getElem? (i := 6) rfl) (List.mem_of_getElem? (i := 6) rfl)) i2
  have y2 := c_check_text (df_of X G c "check_text" sCheckText (List.mem_of_getElem? (i := 7) rfl) (List.mem_of_getElem? (i := 7) rfl)) (gn_of X G c "LONGEST_TEXT" 40 (List.mem_of_getElem? (i := 61) rfl)) i4
  have y3 := c_check_kinds (df_of X G c "check_kinds" sCheckKinds (List.mem_of_getElem? (i := 8) rfl) (List.mem_of_getElem? (i := 8) rfl)) i6
  have y4 := c_check_mender (df_of X G c "check_mender" sCheckMender (List.mem_of_getElem? (i := 9) rfl) (List.mem_of_getElem? (i := 9) rfl)) hb y3
  have j1 := c_text_behind (P := Pg) (w := w) (base := base) (df_of X G c "text_behind" sTextBehind (List.mem_of_getElem? (i := 10) rfl) (List.mem_of_getElem? (i := 10) rfl)) hb
  have j2 := c_is_deed_on (df_of X G c "is_deed_on" sIsDeedOn (List.mem_of_getElem? (i := 11) rfl) (List.mem_of_getElem? (i := 11) rfl)) hb i1
  have x5 := x_check_deeds_of (df_of X G c "check_deeds_of" sCheckDeedsOf (List.mem_of_getElem? (i := 12) rfl) (List.mem_of_getElem? (i := 12) rfl)) x1 x3 x2
  have x6 := x_done (df_of X G c "done" sDone (List.mem_of_getElem? (i := 13) rfl) (List.mem_of_getElem? (i := 13) rfl)) hb (gn_of X G c "LONGEST_TEXT" 40 (List.mem_of_getElem? (i := 61) rfl)) (ec_of X G c "BadDeed" (List.mem_of_getElem? (i := 69) rfl) (List.mem_of_getElem? (i := 81) rfl)) et x5 j2 j1
  have n1 := c_next_deed (P := Pg) (w := w) (Ts := [(T0, fun _ _ => lamQ), (T1, fun _ _ => lamQN)]) (List.mem_cons_of_mem _ (List.mem_cons_self ..)) u1 (dfc_of X G c "next_deed" sNextDeed (List.mem_of_getElem? (i := 14) rfl) (List.mem_of_getElem? (i := 14) rfl)) hb (He.free_ok X G (c.facts (List.mem_of_getElem? (i := 59) rfl))) TB1
  have n2 := c_mending_of (df_of X G c "mending_of" sMendingOf (List.mem_of_getElem? (i := 15) rfl) (List.mem_of_getElem? (i := 15) rfl)) hb n1 j1
  have n3 := c_check_lm (df_of X G c "check_letters_and_mender" sCheckLM (List.mem_of_getElem? (i := 27) rfl) (List.mem_of_getElem? (i := 27) rfl)) y1 y4
  have n4 := c_mended (df_of X G c "mended" sMended (List.mem_of_getElem? (i := 28) rfl) (List.mem_of_getElem? (i := 28) rfl)) n3 y2 n2
  have n5 := c_mending (df_of X G c "mending" sLMending (List.mem_of_getElem? (i := 29) rfl) (List.mem_of_getElem? (i := 29) rfl)) n3 y2 n2
  have s1 := c_pside (P := Pg) (w := w) (base := base) (df_of X G c "printed_side" sPrintedSide (List.mem_of_getElem? (i := 16) rfl) (List.mem_of_getElem? (i := 16) rfl))
  have r1 := c_is_row (df_of X G c "is_row" sIsRow (List.mem_of_getElem? (i := 17) rfl) (List.mem_of_getElem? (i := 17) rfl)) hb i1
  have r2 := c_is_reader (df_of X G c "is_reader" sIsReader (List.mem_of_getElem? (i := 18) rfl) (List.mem_of_getElem? (i := 18) rfl)) hb (gn_of X G c "MOST_STANDS" 200 (List.mem_of_getElem? (i := 65) rfl)) i2 r1
  have r3 := c_stand_from (P := Pg) (w := w) (base := base) (df_of X G c "stand_from" sStandFrom (List.mem_of_getElem? (i := 19) rfl) (List.mem_of_getElem? (i := 19) rfl)) hb
  have r4 := c_stand_behind (df_of X G c "stand_behind" sStandBehind (List.mem_of_getElem? (i := 20) rfl) (List.mem_of_getElem? (i := 20) rfl)) r3
  have x7 := x_check_dr (df_of X G c "check_desk_readers" sCheckDR (List.mem_of_getElem? (i := 21) rfl) (List.mem_of_getElem? (i := 21) rfl)) (ec_of X G c "BadReaders" (List.mem_of_getElem? (i := 73) rfl) (List.mem_of_getElem? (i := 84) rfl)) hb r2
  have d0 := x_dinit dc (di_of c) (He.glo_ok X G (c.facts (List.mem_of_getElem? (i := 77) rfl))) x1 x2
  have d1 := m_add (P := Pg) (w := w) (mg := mg) (base := base) dc (dm_of c "add_step" "Desk.add_step" (dm 1) (List.mem_of_getElem? (i := 46) rfl) (List.mem_of_getElem? (i := 96) rfl)) hb
  have d2 := m_copy dc (dm_of c "copy" "Desk.copy" (dm 2) (List.mem_of_getElem? (i := 47) rfl) (List.mem_of_getElem? (i := 97) rfl)) x6 d1
  have d3 := m_mendR dc (dm_of c "mend" "Desk.mend" (dm 3) (List.mem_of_getElem? (i := 48) rfl) (List.mem_of_getElem? (i := 98) rfl)) y4 n2 d1
  have d4 := m_undo (P := Pg) (w := w) (base := base) dc (dm_of c "undo" "Desk.undo" (dm 4) (List.mem_of_getElem? (i := 49) rfl) (List.mem_of_getElem? (i := 99) rfl)) hb (ec_of X G c "NothingDone" (List.mem_of_getElem? (i := 72) rfl) (List.mem_of_getElem? (i := 83) rfl))
  have d5 := m_text (P := Pg) (w := w) (mg := mg) (base := base) dc (dm_of c "text" "Desk.text" (dm 5) (List.mem_of_getElem? (i := 50) rfl) (List.mem_of_getElem? (i := 100) rfl))
  have d6 := m_row (P := Pg) (w := w) (mg := mg) (base := base) dc (dm_of c "row" "Desk.row" (dm 6) (List.mem_of_getElem? (i := 51) rfl) (List.mem_of_getElem? (i := 101) rfl)) hb
  have d7 := m_verdicts dc (dm_of c "verdicts" "Desk.verdicts" (dm 7) (List.mem_of_getElem? (i := 52) rfl) (List.mem_of_getElem? (i := 102) rfl)) hb x7 r4
  have d8 := m_story dc (dm_of c "story" "Desk.story" (dm 8) (List.mem_of_getElem? (i := 53) rfl) (List.mem_of_getElem? (i := 103) rfl)) hb d6 s1
  have t1 := c_told_text (P := Pg) (w := w) (base := base) (df_of X G c "told_text" sToldText (List.mem_of_getElem? (i := 22) rfl) (List.mem_of_getElem? (i := 22) rfl))
  have t2 := c_word_behind (P := Pg) (w := w) (base := base) (df_of X G c "word_behind" sWordBehind (List.mem_of_getElem? (i := 23) rfl) (List.mem_of_getElem? (i := 23) rfl)) hb
  have t3 := x_begun (df_of X G c "begun_desk" sBegun (List.mem_of_getElem? (i := 24) rfl) (List.mem_of_getElem? (i := 24) rfl)) hb (gn_of X G c "LONGEST_TEXT" 40 (List.mem_of_getElem? (i := 61) rfl)) eta i2 t2 t1 i4 d0
  have t4 := c_told_deed (df_of X G c "told_deed" sToldDeed (List.mem_of_getElem? (i := 25) rfl) (List.mem_of_getElem? (i := 25) rfl)) hb (gn_of X G c "LONGEST_TEXT" 40 (List.mem_of_getElem? (i := 61) rfl)) t1 i5 j2 j1
  have t5 := x_desk_of dc (df_of X G c "desk_of" sDeskOf (List.mem_of_getElem? (i := 26) rfl) (List.mem_of_getElem? (i := 26) rfl)) hb (ec_of X G c "NotText" (List.mem_of_getElem? (i := 74) rfl) (List.mem_of_getElem? (i := 85) rfl)) eta t3 t4 d5 d2
  have k1 := c_taken (P := Pg) (w := w) (base := base) (df_of X G c "_law_taken" sTaken (List.mem_of_getElem? (i := 30) rfl) (List.mem_of_getElem? (i := 30) rfl)) hb
  have k2 := c_pick (df_of X G c "_law_pick" sPick (List.mem_of_getElem? (i := 31) rfl) (List.mem_of_getElem? (i := 31) rfl)) hb k1
  have k3 := c_letters (df_of X G c "_law_letters" sLetters (List.mem_of_getElem? (i := 33) rfl) (List.mem_of_getElem? (i := 33) rfl)) k2
  have k4 := c_text (df_of X G c "_law_text" sText (List.mem_of_getElem? (i := 34) rfl) (List.mem_of_getElem? (i := 34) rfl)) hb k1 k2
  have k5 := c_kinds (df_of X G c "_law_kinds" sKinds (List.mem_of_getElem? (i := 35) rfl) (List.mem_of_getElem? (i := 35) rfl)) hb k1 k2 k4
  have k6 := c_lawreader (df_of X G c "_law_reader" sReader (List.mem_of_getElem? (i := 36) rfl) (List.mem_of_getElem? (i := 36) rfl)) hb k1
  have k7 := c_deedsL (P := Pg) (w := w) (Ts := [(T0, fun _ _ => lamQ), (T1, fun _ _ => lamQN)]) (List.mem_cons_self ..) u0 (dfc_of X G c "_law_deeds" sDeedsL (List.mem_of_getElem? (i := 39) rfl) (List.mem_of_getElem? (i := 39) rfl)) hb TB0
  have k8 := c_lbehind (P := Pg) (w := w) (base := base) (df_of X G c "_law_behind" sLBehind (List.mem_of_getElem? (i := 40) rfl) (List.mem_of_getElem? (i := 40) rfl)) hb
  have k9 := c_mender (df_of X G c "_law_mender" sMender (List.mem_of_getElem? (i := 42) rfl) (List.mem_of_getElem? (i := 42) rfl)) hb k1 k2 k4
  have l1 := c_leads (df_of X G c "_law_leads" sLeads (List.mem_of_getElem? (i := 41) rfl) (List.mem_of_getElem? (i := 41) rfl)) k7 k8
  have l2 := c_led (P := Pg) (w := w) (base := base) (df_of X G c "_law_led" sLed (List.mem_of_getElem? (i := 37) rfl) (List.mem_of_getElem? (i := 37) rfl)) hb
  have l3 := c_says (df_of X G c "_law_says" sSays (List.mem_of_getElem? (i := 38) rfl) (List.mem_of_getElem? (i := 38) rfl)) l2
  have l4 := c_lshown (P := Pg) (w := w) (base := base) (df_of X G c "_law_shown" sShown (List.mem_of_getElem? (i := 43) rfl) (List.mem_of_getElem? (i := 43) rfl))
  have l5 := c_alike (P := Pg) (w := w) (base := base) (df_of X G c "_law_alike" sAlike (List.mem_of_getElem? (i := 32) rfl) (List.mem_of_getElem? (i := 32) rfl)) hb 3
  exact ⟨hb, hb _ (by decide +kernel), k1, k2, k3, k5, k4, k6, k7, k9, k8, l1, l3, l4, l5, n4, n5, ⟨⟨_, _, d0⟩, ⟨_, _, _, _, _, d2⟩, d3, ⟨_, d4⟩, ⟨_, d7⟩, ⟨_, _, t5⟩, d5, d6, d8⟩⟩
theorem law_ok (w : World) (X : K.In h) (G : h.Ns mainGlobals mg) (c : SaysY w h K) {f : Addr} (hfa : mg ("law" : Str) = some (.ref f)) : LamX.LawAtS PySem.Challenge.rw_anyscribe_k27_whole_desks w K C8.CX0 12 63 "script" mg f h := by
  have cd : He.SaysD fa fn K := c.t.d
  obtain ⟨f1, fd, F, e1⟩ := df_of X G cd "law" sLaw (List.mem_of_getElem? (i := 44) rfl) (List.mem_of_getElem? (i := 44) rfl)
  obtain ⟨m1, m0⟩ := He.ba (show (exC K "TooLong" "TooLong.__init__" && (exC K "InvalidDesk" "InvalidDesk.__init__" && decide ((He.cT K ("_law_deeds", none)).2 ≠ (He.cT K ("next_deed", none)).2))) = true from c.more)
  obtain ⟨m2, m3⟩ := He.ba m0
  have hn := of_decide_eq_true m3
  cases hfa.symm.trans e1
  have in1 : (("_law_deeds", none) : He.Defn) ∈ tf := List.mem_cons_self ..
  have in2 : (("next_deed", none) : He.Defn) ∈ tf := List.mem_cons_of_mem _ (List.mem_cons_self ..)
  have two : ∀ (P : Addr × Addr → Prop), P (He.cT K ("_law_deeds", none)) → P (He.cT K ("next_deed", none)) → ∀ p ∈ [He.cT K ("_law_deeds", none), He.cT K ("next_deed", none)], P p := fun P a b p hp => by
    rcases List.mem_cons.mp hp with rfl | hp
    · exact a
    · rw [List.mem_singleton.mp hp]
      exact b
  refine ⟨fd, [He.cT K ("_law_deeds", none), He.cT K ("next_deed", none)], spLaw K [((He.cT K ("_law_deeds", none)).2, fun _ _ => lamQ), ((He.cT K ("next_deed", none)).2, fun _ _ => lamQN)], two _ (c.empty _ in1) (c.empty _ in2), two _ (c.out _ in1) (c.out _ in2), two _ (PySem.W.codeHd_of_K X (c.hd _ in1)) (PySem.W.codeHd_of_K X (c.hd _ in2)), fun s u => ?_, fun H a ns hl _ hH hS => ?_, fun base Xb Gb TB => ?_⟩
  · exact FunD.bindsA (ps := ["script"]) F (fun _ _ _ _ _ _ us hl => match us, hl with | [_], _ => rfl) s [u] rfl
  · refine ⟨a, ns, rfl, hS, fun p hp => ?_, fun _ => rfl⟩
    rcases List.mem_cons.mp hp with rfl | hp
    · exact TabN.nil (hH _ (List.mem_cons_self ..))
    · rw [List.mem_singleton.mp hp]
      exact TabN.nil (hH _ (List.mem_cons_of_mem _ (List.mem_cons_self ..)))
  · exact ok_law F (wo_of (w := w) Xb Gb cd c.z c.z2 m1 m2 hn (TB _ (List.mem_cons_self ..)) (TB _ (List.mem_cons_of_mem _ (List.mem_cons_self ..))))
end
end K27
open PySem PySem.W PyProof.Rows
theorem PySem.Challenge.cw_anyscribe_k27_whole_desks_holds : PySem.Challenge.rw_anyscribe_k27_whole_desks.Holds := by
  w_on; o_law
  refine HandSHeadRun.head_any (r := K27.Rw) (q := view K27.Rw.prog [70]) (H := K27.hk) (ob := K27.ob) (M := 9000) (loose := K27.loose) (d := HandSHeadRun.topDef K27.Rw.prog 70) (kwd := []) K27.ob_eq
    (by kernel_rfl) (fun s => by kernel_rfl) K27.run (by kernel_rfl) (by kernel_rfl) (by kernel_rfl) (by rfl) (by first | assumption | decide +kernel) (by decide +kernel) ⟨rfl, rfl, rfl, rfl, rfl, by decide +kernel⟩ ?hw ?hc
  case hw => w_witness2
  case hc =>
    refine LamX.walk_ofTsE (l := PySem.Challenge.rw_anyscribe_k27_whole_desks) (n := 63) (k := 12) (x := "script") (CX := fun _ => C8.CX0) rfl (by decide) (by kernel_rfl) ⟨rfl, by decide, by decide⟩ ?F (fun _ _ _ _ _ z => z)
    intro w mg fa h Y G hmg0
    obtain ⟨K, KX, c⟩ := Y
    have hmg : mg ("law" : PySem.Str) = some (.ref fa) := by
      have e : (HandSHeadRun.topDef K27.Rw.prog 70).name = ("law" : PySem.Str) := by kernel_rfl
      rw [← e]
      exact hmg0
    exact ⟨K, KX, K27.law_ok w KX G c hmg⟩
