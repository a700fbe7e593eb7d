package whole

import (
	"testing"

	"culet/bigint"
	"culet/brightness"
	"culet/cell"
	"culet/field"
	"culet/interval"
	"culet/job"
	"culet/lexer"
	"culet/parcel"
	"culet/refraction"
	"culet/settings"
	"culet/steps"
	"culet/tier"
	"culet/trace"
	"culet/window"
)

func TestConstants(t *testing.T) { // P1: the constants of the chapters
	for i, l := range [][]int{
		{lexer.Name, lexer.Word, lexer.Number, lexer.Quoted, lexer.Symbol},
		{refraction.Total, refraction.Passes, refraction.Undecided},
		{trace.Returns, trace.Leaks, trace.Unknown},
		{cell.On, cell.Off, cell.Partly},
		{settings.Table, settings.Crown, settings.Girdle, settings.Pavilion, settings.Culet},
		{steps.Pavilion, steps.Crown},
		{steps.Change, steps.Transfer, steps.Cut},
		{parcel.In, parcel.Out, parcel.Split, parcel.Join, parcel.Loss},
		{job.Accept, job.Start, job.Finish, job.Deliver, job.Cancel},
		{job.Open, job.Started, job.Done, job.Delivered, job.Cancelled},
	} {
		for k, n := range l {
			if n != k+1 {
				t.Errorf("list %d: %v", i, l)
			}
		}
	}
	if tier.Pavilion != -1 || tier.Girdle != 0 || tier.Crown != 1 || window.None != 0 || interval.Unit != 1<<24 || interval.Max != 1<<30 {
		t.Error("parts and units")
	}
	if bigint.MaxPower != 100 || bigint.MaxBytes != 4000 || field.MaxBits != 1000 || tier.MaxFacets != 94 || trace.MaxBounces != 20 || brightness.MaxCells != 20000 {
		t.Error("limits")
	}
}
