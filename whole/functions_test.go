package whole

import (
	"culet/audit"
	"culet/bigint"
	"culet/brightness"
	"culet/calibrate"
	"culet/cell"
	"culet/certificate"
	"culet/console"
	"culet/contrast"
	"culet/crystal"
	"culet/cut"
	"culet/diagram"
	"culet/direction"
	"culet/dispersion"
	"culet/drawing"
	"culet/equivalence"
	"culet/field"
	"culet/flaw"
	"culet/format"
	"culet/fresnel"
	"culet/gemstone"
	"culet/interchange"
	"culet/interval"
	"culet/job"
	"culet/lexer"
	"culet/library"
	"culet/lightproof"
	"culet/measure"
	"culet/meetpoint"
	"culet/multiplan"
	"culet/optimize"
	"culet/parcel"
	"culet/placement"
	"culet/plan"
	"culet/plane"
	"culet/polygon"
	"culet/proportions"
	"culet/recut"
	"culet/refine"
	"culet/refraction"
	"culet/resolve"
	"culet/saw"
	"culet/schedule"
	"culet/section"
	"culet/separate"
	"culet/settings"
	"culet/solid"
	"culet/steps"
	"culet/symmetry"
	"culet/syntax"
	"culet/tariff"
	"culet/tier"
	"culet/trace"
	"culet/transfer"
	"culet/transpose"
	"culet/vector"
	"culet/wheel"
	"culet/window"
	"culet/yields"
)

// function is a function that the chapters list.
type function struct {
	name string
	f    any
}

func functions() []function {
	return []function{
		{"bigint.Valid", bigint.Valid}, {"bigint.Of", bigint.Of}, {"bigint.Int64", bigint.Int64}, {"bigint.Add", bigint.Add}, {"bigint.Sub", bigint.Sub}, {"bigint.Mul", bigint.Mul}, {"bigint.Neg", bigint.Neg}, {"bigint.Abs", bigint.Abs}, {"bigint.Sign", bigint.Sign}, {"bigint.Cmp", bigint.Cmp}, {"bigint.Bits", bigint.Bits}, {"bigint.DivMod", bigint.DivMod}, {"bigint.Gcd", bigint.Gcd}, {"bigint.Pow", bigint.Pow}, {"bigint.Sqrt", bigint.Sqrt}, {"bigint.Print", bigint.Print}, {"bigint.Parse", bigint.Parse},
		{"field.Valid", field.Valid}, {"field.Of", field.Of}, {"field.Ratio", field.Ratio}, {"field.Root", field.Root}, {"field.Make", field.Make}, {"field.Add", field.Add}, {"field.Sub", field.Sub}, {"field.Mul", field.Mul}, {"field.Div", field.Div}, {"field.Neg", field.Neg}, {"field.Abs", field.Abs}, {"field.Sign", field.Sign}, {"field.Cmp", field.Cmp}, {"field.Rational", field.Rational}, {"field.Floor", field.Floor}, {"field.Enclose", field.Enclose}, {"field.Print", field.Print}, {"field.Parse", field.Parse},
		{"wheel.Mod", wheel.Mod}, {"wheel.Cos", wheel.Cos}, {"wheel.Sin", wheel.Sin}, {"wheel.Valid", wheel.Valid}, {"wheel.Turn", wheel.Turn}, {"wheel.Flip", wheel.Flip}, {"wheel.Move", wheel.Move}, {"wheel.Index", wheel.Index}, {"wheel.Compose", wheel.Compose}, {"wheel.Inverse", wheel.Inverse}, {"wheel.Motions", wheel.Motions}, {"wheel.Orbit", wheel.Orbit},
		{"vector.Valid", vector.Valid}, {"vector.Of", vector.Of}, {"vector.Add", vector.Add}, {"vector.Sub", vector.Sub}, {"vector.Neg", vector.Neg}, {"vector.Scale", vector.Scale}, {"vector.Dot", vector.Dot}, {"vector.Cross", vector.Cross}, {"vector.Det", vector.Det}, {"vector.Zero", vector.Zero}, {"vector.Cmp", vector.Cmp}, {"vector.Print", vector.Print}, {"vector.Parse", vector.Parse},
		{"plane.Valid", plane.Valid}, {"plane.ValidSetting", plane.ValidSetting}, {"plane.Of", plane.Of}, {"plane.Setting", plane.Setting}, {"plane.Side", plane.Side}, {"plane.Meet", plane.Meet}, {"plane.Through", plane.Through}, {"plane.Canonical", plane.Canonical}, {"plane.Same", plane.Same}, {"plane.Opposite", plane.Opposite}, {"plane.Move", plane.Move}, {"plane.Shift", plane.Shift}, {"plane.Scale", plane.Scale},
		{"polygon.Valid", polygon.Valid}, {"polygon.First", polygon.First}, {"polygon.Same", polygon.Same}, {"polygon.Area", polygon.Area}, {"polygon.Contains", polygon.Contains}, {"polygon.Clip", polygon.Clip}, {"polygon.Hull", polygon.Hull},
		{"solid.Valid", solid.Valid}, {"solid.Of", solid.Of}, {"solid.Block", solid.Block}, {"solid.Edges", solid.Edges}, {"solid.Around", solid.Around}, {"solid.Polygon", solid.Polygon}, {"solid.Contains", solid.Contains}, {"solid.Equal", solid.Equal}, {"solid.Trim", solid.Trim}, {"solid.Move", solid.Move}, {"solid.Shift", solid.Shift}, {"solid.Scale", solid.Scale},
		{"cut.Cut", cut.Cut}, {"cut.All", cut.All}, {"cut.History", cut.History}, {"cut.Faceless", cut.Faceless}, {"cut.Lost", cut.Lost},
		{"measure.Volume", measure.Volume}, {"measure.Centroid", measure.Centroid}, {"measure.Extent", measure.Extent}, {"measure.Area", measure.Area}, {"measure.Area2", measure.Area2}, {"measure.Weight", measure.Weight}, {"measure.Carats", measure.Carats}, {"measure.Removed", measure.Removed},
		{"symmetry.Symmetries", symmetry.Symmetries}, {"symmetry.Order", symmetry.Order}, {"symmetry.Orbits", symmetry.Orbits}, {"symmetry.Congruent", symmetry.Congruent}, {"symmetry.Similar", symmetry.Similar}, {"symmetry.Apply", symmetry.Apply},
		{"section.At", section.At}, {"section.Plan", section.Plan}, {"section.Profile", section.Profile}, {"section.Width", section.Width}, {"section.Level", section.Level}, {"section.Heights", section.Heights},
		{"separate.Separates", separate.Separates}, {"separate.Disjoint", separate.Disjoint}, {"separate.Separator", separate.Separator}, {"separate.Common", separate.Common}, {"separate.Inside", separate.Inside}, {"separate.Clearance", separate.Clearance}, {"separate.Pairs", separate.Pairs},
		{"lexer.Lex", lexer.Lex}, {"lexer.Reserved", lexer.Reserved}, {"lexer.IsName", lexer.IsName}, {"lexer.Value", lexer.Value}, {"lexer.Source", lexer.Source}, {"lexer.Apart", lexer.Apart}, {"lexer.Join", lexer.Join},
		{"syntax.Parse", syntax.Parse}, {"syntax.Fix", syntax.Fix}, {"syntax.Value", syntax.Value},
		{"format.Can", format.Can}, {"format.Value", format.Value}, {"format.Fix", format.Fix}, {"format.Lines", format.Lines}, {"format.Print", format.Print}, {"format.Equal", format.Equal},
		{"tier.Orbit", tier.Orbit}, {"tier.Positions", tier.Positions}, {"tier.Check", tier.Check}, {"tier.Facets", tier.Facets}, {"tier.Find", tier.Find}, {"tier.Part", tier.Part}, {"tier.Prefix", tier.Prefix},
		{"meetpoint.Plane", meetpoint.Plane}, {"meetpoint.Planes", meetpoint.Planes}, {"meetpoint.Point", meetpoint.Point}, {"meetpoint.Depth", meetpoint.Depth}, {"meetpoint.On", meetpoint.On}, {"meetpoint.Outside", meetpoint.Outside},
		{"resolve.Depths", resolve.Depths}, {"resolve.Facets", resolve.Facets}, {"resolve.Points", resolve.Points}, {"resolve.Resolve", resolve.Resolve}, {"resolve.Vertices", resolve.Vertices}, {"resolve.Stage", resolve.Stage}, {"resolve.Fixed", resolve.Fixed},
		{"certificate.Of", certificate.Of}, {"certificate.Fits", certificate.Fits}, {"certificate.Facets", certificate.Facets}, {"certificate.Solid", certificate.Solid}, {"certificate.Check", certificate.Check}, {"certificate.Incidence", certificate.Incidence}, {"certificate.Equal", certificate.Equal},
		{"diagram.Slope", diagram.Slope}, {"diagram.Rows", diagram.Rows}, {"diagram.Lines", diagram.Lines}, {"diagram.Counts", diagram.Counts}, {"diagram.Plan", diagram.Plan}, {"diagram.Silhouette", diagram.Silhouette}, {"diagram.Area", diagram.Area},
		{"drawing.Decimal", drawing.Decimal}, {"drawing.Path", drawing.Path}, {"drawing.Plan", drawing.Plan}, {"drawing.Profile", drawing.Profile}, {"drawing.Raster", drawing.Raster},
		{"proportions.Of", proportions.Of}, {"proportions.Valid", proportions.Valid}, {"proportions.Divide", proportions.Divide}, {"proportions.Percent", proportions.Percent}, {"proportions.Fill", proportions.Fill},
		{"equivalence.Valid", equivalence.Valid}, {"equivalence.Compare", equivalence.Compare}, {"equivalence.Move", equivalence.Move}, {"equivalence.Size", equivalence.Size}, {"equivalence.Form", equivalence.Form}, {"equivalence.Canonical", equivalence.Canonical}, {"equivalence.Equivalent", equivalence.Equivalent}, {"equivalence.Motions", equivalence.Motions}, {"equivalence.Design", equivalence.Design},
		{"transpose.Valid", transpose.Valid}, {"transpose.Facet", transpose.Facet}, {"transpose.Facets", transpose.Facets}, {"transpose.Point", transpose.Point}, {"transpose.Design", transpose.Design}, {"transpose.Factor", transpose.Factor},
		{"library.Sum", library.Sum}, {"library.Check", library.Check}, {"library.Put", library.Put}, {"library.Drop", library.Drop}, {"library.Find", library.Find}, {"library.Tag", library.Tag}, {"library.Untag", library.Untag}, {"library.Search", library.Search}, {"library.Relatives", library.Relatives}, {"library.Equal", library.Equal},
		{"interchange.Can", interchange.Can}, {"interchange.EncodeDesign", interchange.EncodeDesign}, {"interchange.EncodeStone", interchange.EncodeStone}, {"interchange.Check", interchange.Check}, {"interchange.DecodeDesign", interchange.DecodeDesign}, {"interchange.DecodeStone", interchange.DecodeStone},
		{"interval.Valid", interval.Valid}, {"interval.Of", interval.Of}, {"interval.Ratio", interval.Ratio}, {"interval.Number", interval.Number}, {"interval.Add", interval.Add}, {"interval.Sub", interval.Sub}, {"interval.Mul", interval.Mul}, {"interval.Div", interval.Div}, {"interval.Neg", interval.Neg}, {"interval.Square", interval.Square}, {"interval.Sqrt", interval.Sqrt}, {"interval.Hull", interval.Hull}, {"interval.Meet", interval.Meet}, {"interval.Inside", interval.Inside}, {"interval.Sign", interval.Sign}, {"interval.Split", interval.Split}, {"interval.Print", interval.Print},
		{"direction.Valid", direction.Valid}, {"direction.Of", direction.Of}, {"direction.Point", direction.Point}, {"direction.Normal", direction.Normal}, {"direction.Distance", direction.Distance}, {"direction.Add", direction.Add}, {"direction.Sub", direction.Sub}, {"direction.Scale", direction.Scale}, {"direction.Dot", direction.Dot}, {"direction.Norm2", direction.Norm2}, {"direction.Unit", direction.Unit}, {"direction.Inside", direction.Inside}, {"direction.Print", direction.Print},
		{"refraction.Reflect", refraction.Reflect}, {"refraction.Radicand", refraction.Radicand}, {"refraction.Decide", refraction.Decide}, {"refraction.Hits", refraction.Hits}, {"refraction.Refract", refraction.Refract}, {"refraction.Critical", refraction.Critical},
		{"fresnel.Valid", fresnel.Valid}, {"fresnel.Perpendicular", fresnel.Perpendicular}, {"fresnel.Parallel", fresnel.Parallel}, {"fresnel.Reflectance", fresnel.Reflectance}, {"fresnel.Transmittance", fresnel.Transmittance}, {"fresnel.Turn", fresnel.Turn}, {"fresnel.Straight", fresnel.Straight},
		{"trace.Prepare", trace.Prepare}, {"trace.Valid", trace.Valid}, {"trace.Hit", trace.Hit}, {"trace.Enter", trace.Enter}, {"trace.Follow", trace.Follow}, {"trace.Inside", trace.Inside},
		{"cell.Valid", cell.Valid}, {"cell.Point", cell.Point}, {"cell.Covers", cell.Covers}, {"cell.Trace", cell.Trace}, {"cell.Corner", cell.Corner}, {"cell.Inside", cell.Inside},
		{"refine.Axis", refine.Axis}, {"refine.Split", refine.Split}, {"refine.Leaves", refine.Leaves}, {"refine.Counts", refine.Counts}, {"refine.Share", refine.Share},
		{"brightness.Valid", brightness.Valid}, {"brightness.Cells", brightness.Cells}, {"brightness.Bounds", brightness.Bounds}, {"brightness.Refined", brightness.Refined}, {"brightness.Brightness", brightness.Brightness},
		{"window.Valid", window.Valid}, {"window.Of", window.Of}, {"window.Count", window.Count}, {"window.Regions", window.Regions}, {"window.Window", window.Window}, {"window.Draw", window.Draw},
		{"contrast.Of", contrast.Of}, {"contrast.Change", contrast.Change}, {"contrast.Tilted", contrast.Tilted}, {"contrast.Scintillation", contrast.Scintillation}, {"contrast.Symmetric", contrast.Symmetric},
		{"dispersion.Valid", dispersion.Valid}, {"dispersion.Index", dispersion.Index}, {"dispersion.Spread", dispersion.Spread}, {"dispersion.Colored", dispersion.Colored}, {"dispersion.Fan", dispersion.Fan}, {"dispersion.Fire", dispersion.Fire},
		{"lightproof.Valid", lightproof.Valid}, {"lightproof.Prove", lightproof.Prove}, {"lightproof.Check", lightproof.Check}, {"lightproof.Claims", lightproof.Claims}, {"lightproof.Print", lightproof.Print}, {"lightproof.Parse", lightproof.Parse},
		{"optimize.Change", optimize.Change}, {"optimize.Bounds", optimize.Bounds}, {"optimize.Rate", optimize.Rate}, {"optimize.Keep", optimize.Keep}, {"optimize.Search", optimize.Search}, {"optimize.Best", optimize.Best},
		{"gemstone.Valid", gemstone.Valid}, {"gemstone.Find", gemstone.Find}, {"gemstone.Put", gemstone.Put}, {"gemstone.Identify", gemstone.Identify}, {"gemstone.Index", gemstone.Index}, {"gemstone.Critical", gemstone.Critical}, {"gemstone.Milligrams", gemstone.Milligrams}, {"gemstone.Density", gemstone.Density}, {"gemstone.Print", gemstone.Print}, {"gemstone.Parse", gemstone.Parse},
		{"crystal.Valid", crystal.Valid}, {"crystal.Solid", crystal.Solid}, {"crystal.Face", crystal.Face}, {"crystal.Measured", crystal.Measured}, {"crystal.Weight", crystal.Weight}, {"crystal.Box", crystal.Box}, {"crystal.Redundant", crystal.Redundant}, {"crystal.Trim", crystal.Trim}, {"crystal.Cleave", crystal.Cleave},
		{"flaw.Valid", flaw.Valid}, {"flaw.Solid", flaw.Solid}, {"flaw.Grow", flaw.Grow}, {"flaw.Point", flaw.Point}, {"flaw.Shift", flaw.Shift}, {"flaw.Hit", flaw.Hit}, {"flaw.Apart", flaw.Apart},
		{"placement.Valid", placement.Valid}, {"placement.Place", placement.Place}, {"placement.Fits", placement.Fits}, {"placement.First", placement.First}, {"placement.Greatest", placement.Greatest}, {"placement.Rounded", placement.Rounded}, {"placement.Overlap", placement.Overlap},
		{"tariff.Valid", tariff.Valid}, {"tariff.Equal", tariff.Equal}, {"tariff.ClassOf", tariff.ClassOf}, {"tariff.Value", tariff.Value}, {"tariff.Total", tariff.Total}, {"tariff.Next", tariff.Next}, {"tariff.Fair", tariff.Fair}, {"tariff.Least", tariff.Least}, {"tariff.Print", tariff.Print}, {"tariff.Parse", tariff.Parse},
		{"plan.Valid", plan.Valid}, {"plan.Count", plan.Count}, {"plan.Stone", plan.Stone}, {"plan.Worth", plan.Worth}, {"plan.Fits", plan.Fits}, {"plan.Best", plan.Best}, {"plan.Prove", plan.Prove}, {"plan.Check", plan.Check},
		{"multiplan.Valid", multiplan.Valid}, {"multiplan.Overlaps", multiplan.Overlaps}, {"multiplan.Check", multiplan.Check}, {"multiplan.Best", multiplan.Best}, {"multiplan.Greedy", multiplan.Greedy}, {"multiplan.Cover", multiplan.Cover}, {"multiplan.Bound", multiplan.Bound}, {"multiplan.Rest", multiplan.Rest},
		{"saw.Place", saw.Place}, {"saw.Faces", saw.Faces}, {"saw.Build", saw.Build}, {"saw.Check", saw.Check}, {"saw.Depth", saw.Depth}, {"saw.Cuts", saw.Cuts},
		{"settings.Valid", settings.Valid}, {"settings.Side", settings.Side}, {"settings.Reduce", settings.Reduce}, {"settings.Steeper", settings.Steeper}, {"settings.Tooth", settings.Tooth}, {"settings.Index", settings.Index}, {"settings.Fits", settings.Fits}, {"settings.Slide", settings.Slide}, {"settings.FromSlide", settings.FromSlide}, {"settings.Line", settings.Line}, {"settings.Sheet", settings.Sheet},
		{"steps.Valid", steps.Valid}, {"steps.Of", steps.Of}, {"steps.Check", steps.Check}, {"steps.Time", steps.Time}, {"steps.Changes", steps.Changes}, {"steps.Least", steps.Least}, {"steps.Lines", steps.Lines}, {"steps.Rest", steps.Rest},
		{"transfer.Over", transfer.Over}, {"transfer.Plane", transfer.Plane}, {"transfer.Setting", transfer.Setting}, {"transfer.Solid", transfer.Solid}, {"transfer.Index", transfer.Index}, {"transfer.Offset", transfer.Offset}, {"transfer.Sheet", transfer.Sheet}, {"transfer.Spread", transfer.Spread},
		{"recut.Repair", recut.Repair}, {"recut.Clean", recut.Clean}, {"recut.Deepened", recut.Deepened}, {"recut.Repairs", recut.Repairs}, {"recut.Best", recut.Best}, {"recut.Cheapest", recut.Cheapest}, {"recut.Touched", recut.Touched},
		{"calibrate.Valid", calibrate.Valid}, {"calibrate.Predict", calibrate.Predict}, {"calibrate.Residuals", calibrate.Residuals}, {"calibrate.Misfit", calibrate.Misfit}, {"calibrate.Fit", calibrate.Fit}, {"calibrate.Correct", calibrate.Correct}, {"calibrate.Worst", calibrate.Worst}, {"calibrate.Turn", calibrate.Turn},
		{"parcel.Valid", parcel.Valid}, {"parcel.Find", parcel.Find}, {"parcel.Do", parcel.Do}, {"parcel.Of", parcel.Of}, {"parcel.Weigh", parcel.Weigh}, {"parcel.Audit", parcel.Audit}, {"parcel.Value", parcel.Value}, {"parcel.Trace", parcel.Trace},
		{"job.Valid", job.Valid}, {"job.Begin", job.Begin}, {"job.Do", job.Do}, {"job.Of", job.Of}, {"job.Find", job.Find}, {"job.Overdue", job.Overdue}, {"job.Yield", job.Yield}, {"job.Right", job.Right}, {"job.Equal", job.Equal},
		{"schedule.Valid", schedule.Valid}, {"schedule.Check", schedule.Check}, {"schedule.List", schedule.List}, {"schedule.Length", schedule.Length}, {"schedule.Lateness", schedule.Lateness}, {"schedule.Paths", schedule.Paths}, {"schedule.Bound", schedule.Bound}, {"schedule.ByDue", schedule.ByDue}, {"schedule.Best", schedule.Best}, {"schedule.Gantt", schedule.Gantt},
		{"yields.Valid", yields.Valid}, {"yields.Total", yields.Total}, {"yields.Mean", yields.Mean}, {"yields.Variance", yields.Variance}, {"yields.Median", yields.Median}, {"yields.Trend", yields.Trend}, {"yields.Below", yields.Below}, {"yields.Group", yields.Group}, {"yields.Best", yields.Best}, {"yields.Percent", yields.Percent}, {"yields.Lines", yields.Lines},
		{"audit.Solid", audit.Solid}, {"audit.Volume", audit.Volume}, {"audit.Apart", audit.Apart}, {"audit.Witnesses", audit.Witnesses}, {"audit.Ledger", audit.Ledger},
		{"console.Do", console.Do}, {"console.Run", console.Run}, {"console.Valid", console.Valid},
	}
}
